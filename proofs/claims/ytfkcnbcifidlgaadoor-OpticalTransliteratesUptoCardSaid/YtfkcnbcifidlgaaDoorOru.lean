/-
  What is proved here: a row of letters of two bytes each holds a letter if and only if its bytes stand somewhere in the row's bytes; the bytes of a letter.
-/
import Derived.Test.YtfkcnbcifidlgaaDoorOir
namespace Go.Proofs.YtfkcnbcifidlgaaDoor
open Go.RowKit

/-- the two bytes of a letter -/
def two (n : Nat) : List UInt8 := [UInt8.ofNat (192 + n / 64), UInt8.ofNat (128 + n % 64)]
def twos : List Nat → List UInt8
  | [] => []
  | n :: R => two n ++ twos R

theorem nat_byte {n : Nat} (h : n < 256) : (UInt8.ofNat n).toNat = n := by simp; omega
theorem two_0 {n : Nat} (h : n < 2048) : cB (two n) 0 = 192 + n / 64 := by
  have : (UInt8.ofNat (192 + n / 64)).toNat = 192 + n / 64 := nat_byte (by omega)
  unfold cB two; simp only [List.getD_cons_zero]; rw [this]; omega
theorem two_1 (n : Nat) : cB (two n) 1 = 128 + n % 64 := by
  have : (UInt8.ofNat (128 + n % 64)).toNat = 128 + n % 64 := nat_byte (by omega)
  unfold cB two; simp only [List.getD_cons_succ, List.getD_cons_zero]; rw [this]; omega
theorem two_len (n : Nat) : (two n).length = 2 := rfl
theorem twos_len (R : List Nat) : (twos R).length = 2 * R.length := by
  induction R with
  | nil => rfl
  | cons n R ih => simp only [twos, List.length_append, two_len, ih, List.length_cons]; omega
theorem twos_0 (n : Nat) (R : List Nat) : cB (twos (n :: R)) 0 = cB (two n) 0 := rfl
theorem twos_1 (n : Nat) (R : List Nat) : cB (twos (n :: R)) 1 = cB (two n) 1 := rfl
theorem twos_s (n : Nat) (R : List Nat) (k : Nat) : cB (twos (n :: R)) (k + 2) = cB (twos R) k := by simp [twos, two, cB]
theorem twos_lt (R : List Nat) (hR : ∀ n, n ∈ R → 128 ≤ n ∧ n < 2048) : ∀ j, cB (twos R) j < 224 := by
  induction R with
  | nil => intro j; simp [twos, cB]
  | cons n R ih =>
    intro j
    have hn := hR n (by simp)
    match j with
    | 0 => rw [twos_0, two_0 hn.2]; omega
    | 1 => rw [twos_1, two_1]; omega
    | k + 2 => rw [twos_s]; exact ih (fun m hm => hR m (by simp [hm])) k
theorem oc_two (R : List Nat) (hR : ∀ n, n ∈ R → 128 ≤ n ∧ n < 2048) (m : Nat) (m1 : 128 ≤ m) (m2 : m < 2048) : (∃ j, oc (twos R) (two m) j) ↔ m ∈ R := by
  induction R with
  | nil =>
    constructor
    · intro ⟨j, h, _⟩; simp [twos, two_len] at h
    · intro h; cases h
  | cons n R ih =>
    have hn := hR n (by simp)
    have ih := ih (fun q hq => hR q (by simp [hq]))
    constructor
    · intro ⟨j, h1, h2⟩
      have e0 := h2 0 (by simp [two_len])
      have e1 := h2 1 (by simp [two_len])
      rw [two_len] at h1
      match j with
      | 0 =>
        rw [Nat.zero_add, twos_0, two_0 hn.2, two_0 m2] at e0
        rw [Nat.zero_add, twos_1, two_1, two_1] at e1
        have : m = n := by omega
        rw [this]; simp
      | 1 =>
        rw [show 1 + 0 = 1 from rfl, twos_1, two_1, two_0 m2] at e0
        omega
      | k + 2 =>
        refine List.mem_cons_of_mem _ (ih.1 ⟨k, ?_, fun t ht => ?_⟩)
        · rw [twos_len] at h1 ⊢; simp only [List.length_cons] at h1; rw [two_len]; omega
        · have := h2 t ht
          rw [show k + 2 + t = k + t + 2 by omega, twos_s] at this
          exact this
    · intro h
      rcases List.mem_cons.1 h with e | h
      · refine ⟨0, by rw [twos_len, two_len]; simp; omega, fun t ht => ?_⟩
        rw [two_len] at ht
        subst e
        match t with
        | 0 => rfl
        | 1 => rfl
        | k + 2 => omega
      · obtain ⟨j, h1, h2⟩ := ih.2 h
        refine ⟨j + 2, by rw [twos_len, two_len] at h1 ⊢; simp only [List.length_cons]; omega, fun t ht => ?_⟩
        rw [show j + 2 + t = j + t + 2 by omega, twos_s]
        exact h2 t ht

/-! ### what a letter is written as -/
theorem valid_nat {n : Nat} (h : Lib.validRune (n : Int) = true) : (n < 55296) ∨ (57343 < n ∧ n ≤ 1114111) := by
  simp only [Lib.validRune, decide_eq_true_eq] at h
  omega
theorem utf8_valid {n : Nat} (h : Lib.validRune (n : Int) = true) : Utf8.valid (n : Int) = true := by
  have := valid_nat h
  simp only [Utf8.valid, Bool.or_eq_true, Bool.and_eq_true, decide_eq_true_eq]
  omega
theorem enc_one (n : Nat) (h : n < 128) : Utf8.encode (n : Int) = S [UInt8.ofNat n] := by
  have hv : Utf8.valid (n : Int) = true := by simp only [Utf8.valid, Bool.or_eq_true, Bool.and_eq_true, decide_eq_true_eq]; omega
  unfold Utf8.encode
  simp only [hv, if_true, Int.toNat_natCast, h]
  rfl
theorem enc_two (n : Nat) (h1 : 128 ≤ n) (h2 : n < 2048) : Utf8.encode (n : Int) = S (two n) := by
  have hv : Utf8.valid (n : Int) = true := by simp only [Utf8.valid, Bool.or_eq_true, Bool.and_eq_true, decide_eq_true_eq]; omega
  unfold Utf8.encode
  simp only [hv, if_true, Int.toNat_natCast, if_neg (show ¬ n < 128 by omega), h2]
  rfl
theorem enc_more (n : Nat) (h1 : 2048 ≤ n) (hv : Lib.validRune (n : Int) = true) : ∃ (l : Nat) (y : List UInt8), Utf8.encode (n : Int) = S y ∧ y.length = l + 1 ∧ 1 ≤ l ∧ l ≤ 3 ∧ 224 ≤ cB y 0 ∧ cB y l < 192 := by
  have hw := valid_nat hv
  have hv := utf8_valid hv
  have hb : (UInt8.ofNat (128 + n % 64)).toNat = 128 + n % 64 := nat_byte (by omega)
  by_cases h3 : n < 65536
  · have ha : (UInt8.ofNat (224 + n / 4096)).toNat = 224 + n / 4096 := nat_byte (by omega)
    refine ⟨2, [UInt8.ofNat (224 + n / 4096), UInt8.ofNat (128 + n / 64 % 64), UInt8.ofNat (128 + n % 64)], ?_, rfl, by omega, by omega, ?_, ?_⟩
    · unfold Utf8.encode
      simp only [hv, if_true, Int.toNat_natCast, if_neg (show ¬ n < 128 by omega), if_neg (show ¬ n < 2048 by omega), h3]
      rfl
    · unfold cB; simp only [List.getD_cons_zero]; rw [ha]; omega
    · unfold cB; simp only [List.getD_cons_succ, List.getD_cons_zero]; rw [hb]; omega
  · have ha : (UInt8.ofNat (240 + n / 262144)).toNat = 240 + n / 262144 := nat_byte (by omega)
    refine ⟨3, [UInt8.ofNat (240 + n / 262144), UInt8.ofNat (128 + n / 4096 % 64), UInt8.ofNat (128 + n / 64 % 64), UInt8.ofNat (128 + n % 64)], ?_, rfl, by omega, by omega, ?_, ?_⟩
    · unfold Utf8.encode
      simp only [hv, if_true, Int.toNat_natCast, if_neg (show ¬ n < 128 by omega), if_neg (show ¬ n < 2048 by omega), if_neg h3]
      rfl
    · unfold cB; simp only [List.getD_cons_zero]; rw [ha]; omega
    · unfold cB; simp only [List.getD_cons_succ, List.getD_cons_zero]; rw [hb]; omega

theorem fewB_of {x : List UInt8} (h : (x.all fun b => (decide (192 ≤ b.toNat)) || (List.range (x.length + 1)).all fun i => decide ((x.take i).count b ≤ (i + 16) / 8)) = true) : fewB x := by
  intro b i hb hi
  by_cases hm : b ∈ x
  · have := List.all_eq_true.1 h b hm
    simp only [Bool.or_eq_true, decide_eq_true_eq] at this
    rcases this with h1 | h1
    · omega
    · have := List.all_eq_true.1 h1 i (List.mem_range.2 (by omega))
      simpa using this
  · rw [List.count_eq_zero.2 (fun h => hm (List.mem_of_mem_take h))]; omega

end Go.Proofs.YtfkcnbcifidlgaaDoor
