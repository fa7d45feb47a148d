/-
  What is proved here: what the plain functions of the group return, of the program and of the reference: isResidue, isSecret, product, power; residue, Secret, Pow, Near; for all numbers in their ranges.
-/
import Derived.Test.YtaikoeoabgkglaaDoorRows
import Derived.Test.YtaikoeoabgkglaaDoorKit
import Derived.Test.YtaikoeoabgkglaaDoorNt
import Derived.Test.YtaikoeoabgkglaaDoorLen64
namespace Go.Proofs.YtaikoeoabgkglaaDoor
open Go.RowKit

/-- a power in the group, and a product -/
def pwN (x k : Nat) : Nat := x ^ k % gP
def pwZ (x k : Int) : Int := ((pwN x.toNat k.toNat : Nat) : Int)
def muN (a b : Nat) : Nat := a * b % gP
def muZ (a b : Int) : Int := ((muN a.toNat b.toNat : Nat) : Int)
def resB (x : Int) : Bool := decide (1 ≤ x) && decide (x < 2147483579)
def secB (k : Int) : Bool := decide (1 ≤ k) && decide (k < 1073741789)
theorem resB_yes {x : Int} (h : resB x = true) : 1 ≤ x ∧ x < 2147483579 := by simpa [resB] using h
theorem secB_yes {x : Int} (h : secB x = true) : 1 ≤ x ∧ x < 1073741789 := by simpa [secB] using h
theorem resB_mk {x : Int} (a : 1 ≤ x) (b : x < 2147483579) : resB x = true := by simp [resB, a, b]
theorem secB_mk {x : Int} (a : 1 ≤ x) (b : x < 1073741789) : secB x = true := by simp [secB, a, b]
theorem pwN_lt (x k : Nat) : pwN x k < 2147483579 := Nat.mod_lt _ (by decide)
theorem muN_lt (a b : Nat) : muN a b < 2147483579 := Nat.mod_lt _ (by decide)
theorem pwZ_bd (x k : Int) : 0 ≤ pwZ x k ∧ pwZ x k < 2147483579 := by
  have := pwN_lt x.toNat k.toNat
  unfold pwZ; omega
theorem muZ_bd (x k : Int) : 0 ≤ muZ x k ∧ muZ x k < 2147483579 := by
  have := muN_lt x.toNat k.toNat
  unfold muZ; omega

theorem mul_bd {a b : Nat} (ha : a < 2147483579) (hb : b < 2147483579) : a * b < 4611686018427387904 :=
  Nat.lt_of_le_of_lt (Nat.mul_le_mul (Nat.le_of_lt_succ (Nat.lt_succ_of_lt ha)) (Nat.le_of_lt_succ (Nat.lt_succ_of_lt hb))) (by decide)
theorem mu_val (a b : Nat) (ha : a < 2147483579) (hb : b < 2147483579) : (wrap64 ((a : Int) * (b : Int))).tmod 2147483579 = ((muN a b : Nat) : Int) := by
  have h := mul_bd ha hb
  have e : wrap64 ((a : Int) * (b : Int)) = ((a * b : Nat) : Int) := by
    rw [← Int.natCast_mul]
    generalize a * b = c at h
    unfold wrap64; omega
  rw [e, Int.tmod_eq_emod_of_nonneg (by omega)]
  unfold muN gP; omega

theorem grp_residue (x : Int) (w : World) : Calls Tryd.prog 42 #[.int .i64 x] w fun e w' => e = .returned (.bool (resB x)) ∧ w = w' := by
  by_cases h : 1 ≤ x
  · have d : decide (1 ≤ x) = true := by simpa using h
    have hv : resB x = decide (x < 2147483579) := by unfold resB; rw [d, Bool.true_and]
    rw [hv]; clear h hv
    go_enter Tryd.func42, Tryd.ntmps42
    go_wp2
    go_ret
    exact ⟨rfl, rfl⟩
  · have d : decide (1 ≤ x) = false := by simpa using h
    have hv : resB x = false := by unfold resB; rw [d, Bool.false_and]
    rw [hv]; clear h hv
    go_enter Tryd.func42, Tryd.ntmps42
    go_wp2
    go_ret
    exact ⟨rfl, rfl⟩
theorem ret_i64 {a b : Int} (h : a = b) : Ending.returned (.int .i64 a) = .returned (.int .i64 b) := by rw [h]
theorem grp_product_n (a b : Nat) (w : World) (ha : a < 2147483579) (hb : b < 2147483579) :
    Calls Tryd.prog 55 #[.int .i64 (a : Int), .int .i64 (b : Int)] w fun e w' => e = .returned (.int .i64 ((muN a b : Nat) : Int)) ∧ w = w' := by
  have H := Lib.hid (mu_val a b ha hb)
  go_enter Tryd.func55, Tryd.ntmps55
  go_wp2
  go_ret
  exact ⟨ret_i64 H.out, rfl⟩
theorem grp_product (a b : Int) (w : World) (ha : 0 ≤ a) (ha2 : a < 2147483579) (hb : 0 ≤ b) (hb2 : b < 2147483579) :
    Calls Tryd.prog 55 #[.int .i64 a, .int .i64 b] w fun e w' => e = .returned (.int .i64 (muZ a b)) ∧ w = w' := by
  have h := grp_product_n a.toNat b.toNat w (by omega) (by omega)
  rw [Int.toNat_of_nonneg ha, Int.toNat_of_nonneg hb] at h
  exact h

theorem and1 (q : Nat) (h : q < 9223372036854775808) : bits .and .i64 (q : Int) 1 = ((q % 2 : Nat) : Int) := by
  have h1 : (BitVec.ofInt 64 (q : Int)).toNat = q := by rw [BitVec.toNat_ofInt]; omega
  have h2 : (BitVec.ofInt 64 (1 : Int)).toNat = 1 := by decide
  show IntKind.i64.wrap ((BitVec.ofInt 64 (q : Int) &&& BitVec.ofInt 64 (1 : Int)).toNat : Int) = _
  rw [BitVec.toNat_and, h1, h2, Nat.and_one_is_mod]
  exact IntWalk.i64_in _ (by omega)
theorem bit_at (k j : Nat) (hk : k < 4611686018427387904) : bits .and .i64 ((k : Int) / 2 ^ j) 1 = ((k / 2 ^ j % 2 : Nat) : Int) := by
  have e : (k : Int) / 2 ^ j = ((k / 2 ^ j : Nat) : Int) := by simp
  have h := Nat.div_le_self k (2 ^ j)
  rw [e, and1 _ (by omega)]
theorem bit_one {k j : Nat} (hk : k < 4611686018427387904) (h : k / 2 ^ j % 2 = 1) : (bits .and .i64 ((k : Int) / 2 ^ j) 1 == 1) = true := by
  rw [bit_at k j hk, h]; rfl
theorem bit_no {k j : Nat} (hk : k < 4611686018427387904) (h : ¬ k / 2 ^ j % 2 = 1) : (bits .and .i64 ((k : Int) / 2 ^ j) 1 == 1) = false := by
  rw [bit_at k j hk, show k / 2 ^ j % 2 = 0 by omega]; rfl

set_option maxHeartbeats 1000000 in
theorem bits_len (x : Int) (w : World) (h0 : 0 ≤ x) (h1 : x ≤ 18446744073709551615) :
    Calls Tryd.prog 54 #[.int .u64 x] w fun e w' => e = .returned (.int .i64 (Lib.bitLen x.toNat)) ∧ w = w' := by
  go_enter Tryd.func54, Tryd.ntmps54
  go_wp2_with (go_at_call 62; (with_reducible refine (bits_len64 x _ h0 h1).mono ?_); rintro e w' ⟨rfl, rfl⟩)
  go_ret
  exact ⟨rfl, rfl⟩

/-- what the loop of a power keeps -/
def PwR (x0 k0 i r y : Nat) : Prop := r < 2147483579 ∧ y < 2147483579 ∧ r * y ^ (k0 / 2 ^ i) % gP = x0 ^ k0 % gP
theorem PwR.start {x k : Nat} (h : x < 2147483579) : PwR x k 0 1 x := ⟨by decide, h, by simp⟩
theorem PwR.step {x0 k0 i r y : Nat} (h : PwR x0 k0 i r y) (s : Nat) (hs : s = if k0 / 2 ^ i % 2 = 1 then muN r y else r) : PwR x0 k0 (i + 1) s (muN y y) := by
  obtain ⟨h1, h2, h3⟩ := h
  refine ⟨?_, muN_lt _ _, ?_⟩
  · rw [hs]; split
    · exact muN_lt _ _
    · exact h1
  · rw [hs, Nat.pow_succ, ← Nat.div_div_eq_div_mul, ← h3]
    exact pm_step gP r y (k0 / 2 ^ i)
theorem PwR.done {x0 k0 i r y : Nat} (h : PwR x0 k0 i r y) (hi : k0 < 2 ^ i) : r = pwN x0 k0 := by
  obtain ⟨h1, _, h3⟩ := h
  rw [Nat.div_eq_of_lt hi, Nat.pow_zero, Nat.mul_one, Nat.mod_eq_of_lt (b := gP) h1] at h3
  exact h3
theorem len_lt : ∀ f x : Nat, x < 2 ^ f → x < 2 ^ Lib.bitLenAux f x
  | 0, x, h => by simpa [Lib.bitLenAux] using h
  | f + 1, x, h => by
    unfold Lib.bitLenAux
    split
    · rename_i h0; subst h0; decide
    · have := len_lt f (x / 2) (by rw [Nat.pow_succ] at h; omega)
      rw [Nat.add_comm 1, Nat.pow_succ]; omega
theorem len_le : ∀ f x : Nat, Lib.bitLenAux f x ≤ f
  | 0, x => Nat.le_refl _
  | f + 1, x => by
    unfold Lib.bitLenAux
    split
    · omega
    · have := len_le f (x / 2); omega

set_option maxHeartbeats 1000000 in
theorem grp_power_n (x k : Nat) (w : World) (hx : x < 2147483579) (hk : k < 4611686018427387904) :
    Calls Tryd.prog 43 #[.int .i64 (x : Int), .int .i64 (k : Int)] w fun e w' => e = .returned (.int .i64 ((pwN x k : Nat) : Int)) ∧ w = w' := by
  have HL : ∃ L : Nat, Hid (Lib.bitLen k = L) := ⟨_, Lib.hid rfl⟩
  obtain ⟨L, HL⟩ := HL
  have hL : L ≤ 64 := by have := len_le 64 k; rw [← HL.out]; exact this
  have hb := bits_len (k : Int) w (by omega) (by omega)
  rw [Int.toNat_natCast, HL.out] at hb
  have HB := Lib.hid hb
  clear hb
  go_enter Tryd.func43, Tryd.ntmps43
  go_wp2_with (go_at_call 54; (with_reducible refine HB.out.mono ?_); rintro e w' ⟨rfl, rfl⟩)
  go_loop [0, 5, 6, 10] (fun x5 r _ i => ∃ j r0 y0 : Nat, j ≤ L ∧ i = .int .i64 (j : Int) ∧ r = .int .i64 (r0 : Int) ∧ x5 = .int .i64 (y0 : Int) ∧ Hid (PwR x k j r0 y0)) (fun _ _ _ i => L - (intOf i).toNat)
  case atStart => exact ⟨0, 1, x, Nat.zero_le _, rfl, rfl, rfl, Lib.hid (PwR.start hx)⟩
  case round =>
    obtain ⟨j, r0, y0, hj, rfl, rfl, rfl, HR⟩ := hrel
    by_cases hlt : j < L
    · have hr := HR.out.1
      have hy := HR.out.2.1
      by_cases hbit : k / 2 ^ j % 2 = 1
      · have HS := Lib.hid (HR.out.step (muN r0 y0) (by rw [if_pos hbit]))
        have hd := bit_one hk hbit
        clear hbit HR
        go_wp2_with fail
        with_reducible refine (grp_product_n r0 y0 _ hr hy).mono ?_
        rintro e w' ⟨rfl, rfl⟩
        go_wp2_with fail
        with_reducible refine (grp_product_n y0 y0 _ hy hy).mono ?_
        rintro e w' ⟨rfl, rfl⟩
        go_wp2
        go_round
        case rel => exact ⟨j + 1, _, _, by omega, by go_num, rfl, rfl, HS⟩
        case measure => simp [intOf]; omega
      · have HS := Lib.hid (HR.out.step r0 (by rw [if_neg hbit]))
        have hd := bit_no hk hbit
        clear hbit HR
        go_wp2_with fail
        with_reducible refine (grp_product_n y0 y0 _ hy hy).mono ?_
        rintro e w' ⟨rfl, rfl⟩
        go_wp2
        go_round
        case rel => exact ⟨j + 1, _, _, by omega, by go_num, rfl, rfl, HS⟩
        case measure => simp [intOf]; omega
    · go_wp2
      go_ret
      obtain rfl : j = L := by omega
      have hl := len_lt 64 k (by omega)
      have e : Lib.bitLenAux 64 k = j := HL.out
      rw [e] at hl
      exact ⟨ret_i64 (by rw [HR.out.done hl]), rfl⟩
theorem grp_power (x k : Int) (w : World) (h0 : 0 ≤ x) (hx : x < 2147483579) (hk0 : 0 ≤ k) (hk : k < 4611686018427387904) :
    Calls Tryd.prog 43 #[.int .i64 x, .int .i64 k] w fun e w' => e = .returned (.int .i64 (pwZ x k)) ∧ w = w' := by
  have h := grp_power_n x.toNat k.toNat w (by omega) (by omega)
  rw [Int.toNat_of_nonneg h0, Int.toNat_of_nonneg hk0] at h
  exact h
end Go.Proofs.YtaikoeoabgkglaaDoor
