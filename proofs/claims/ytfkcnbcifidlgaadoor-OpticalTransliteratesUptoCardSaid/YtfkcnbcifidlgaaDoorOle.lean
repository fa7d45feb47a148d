/-
  What is proved here: what stands for a letter, in the program (lettersFor).
-/
import Derived.Test.YtfkcnbcifidlgaaDoorOlr
namespace Go.Proofs.YtfkcnbcifidlgaaDoor
open Go.RowKit

def findR (n : Nat) : List Rw → Option (List UInt8)
  | [] => none
  | r :: L => if n ∈ r.1 then some r.2 else findR n L
def letP (n : Nat) : Option (List UInt8) := if 65 ≤ n ∧ n ≤ 90 then some [UInt8.ofNat n] else if 97 ≤ n ∧ n ≤ 122 then some [UInt8.ofNat (n - 32)] else findR n rowsP
def rowOk (r : Rw) : Bool := (r.1.all fun n => decide (192 ≤ n) && decide (n < 384)) && decide ((twos r.1).length ≤ 100) && ((twos r.1).all fun b => (decide (192 ≤ b.toNat)) || (List.range ((twos r.1).length + 1)).all fun i => decide (((twos r.1).take i).count b ≤ (i + 16) / 8)) && decide (r.2.length ≤ 2)
theorem rowsP_ok : rowsP.all rowOk = true := by decide +kernel
theorem row_ok {r : Rw} (h : r ∈ rowsP) : (∀ n, n ∈ r.1 → 192 ≤ n ∧ n < 384) ∧ (twos r.1).length ≤ 100 ∧ fewB (twos r.1) ∧ r.2.length ≤ 2 := by
  have := List.all_eq_true.1 rowsP_ok r h
  simp only [rowOk, Bool.and_eq_true, decide_eq_true_eq] at this
  obtain ⟨⟨⟨h1, h2⟩, h3⟩, h4⟩ := this
  refine ⟨fun n hn => ?_, h2, fewB_of h3, h4⟩
  have := List.all_eq_true.1 h1 n hn
  simp only [Bool.and_eq_true, decide_eq_true_eq] at this
  exact this

theorem findR_in {n k : Nat} {L : List Rw} (hk : k < L.length) (h : n ∈ L[k].1) (hb : findR n (L.drop k) = findR n L) : findR n L = some L[k].2 := by
  rw [← hb, List.drop_eq_getElem_cons hk]
  simp [findR, h]
theorem findR_out {n k : Nat} {L : List Rw} (hk : k < L.length) (h : ¬ n ∈ L[k].1) (hb : findR n (L.drop k) = findR n L) : findR n (L.drop (k + 1)) = findR n L := by
  rw [← hb, List.drop_eq_getElem_cons hk]
  simp [findR, h]

theorem cell_bl {w w' : World} {g k : Nat} {v : Value} (h : w.cell? ⟨g, k, none⟩ = some v) (hb : Below w.heap.size w w') : w'.cell? ⟨g, k, none⟩ = some v := by
  refine (hb.cell (p := ⟨g, k, none⟩) ?_).trans h
  rcases Nat.lt_or_ge g w.heap.size with h1 | h1
  · exact h1
  · unfold World.cell? at h
    rw [Array.getElem?_eq_none h1] at h
    cases h
theorem cells_row : Tryd.prog.cellsOf 68 = 2 := by kernel_rfl

set_option maxRecDepth 40000 in
set_option maxHeartbeats 4000000 in
theorem p_lf_rows (n : Nat) (hv : Lib.validRune (n : Int) = true) (h1 : ¬ (65 ≤ n ∧ n ≤ 90)) (h2 : ¬ (97 ≤ n ∧ n ≤ 122)) (w : World) (hT : TabL 3 rowsP w) :
    Calls Tryd.prog 33 #[.int .i32 n] w fun e w' => e = .returned (.tuple #[.string (S ((findR n rowsP).getD [])), .bool (findR n rowsP).isSome]) ∧ Below w.heap.size w w' := by
  obtain ⟨L, hL⟩ : ∃ L, rowsP = L := ⟨_, rfl⟩
  have hlen : L.length = 25 := by rw [← hL]; rfl
  have hOK : Hid (∀ r, r ∈ L → (∀ n, n ∈ r.1 → 192 ≤ n ∧ n < 384) ∧ (twos r.1).length ≤ 100 ∧ fewB (twos r.1) ∧ r.2.length ≤ 2) := Lib.hid (fun r hr => row_ok (by rw [hL]; exact hr))
  rw [hL] at hT ⊢
  have HT := Lib.hid hT
  have HV := Lib.hid hv
  have HLEN := Lib.hid hlen
  obtain ⟨r, hr⟩ : ∃ r : Int, (n : Int) = r := ⟨_, rfl⟩
  have hz : (¬ (65 : Int) ≤ r ∧ ¬ (97 : Int) ≤ r) ∨ ((65 : Int) ≤ r ∧ ¬ r ≤ 90 ∧ ¬ (97 : Int) ≤ r) ∨ ((65 : Int) ≤ r ∧ ¬ r ≤ 90 ∧ (97 : Int) ≤ r ∧ ¬ r ≤ 122) := by omega
  have HRN := Lib.hid hr
  obtain ⟨sa, hsa⟩ : ∃ sa, S ((findR n L).getD []) = sa := ⟨_, rfl⟩
  obtain ⟨sb, hsb⟩ : ∃ sb, (findR n L).isSome = sb := ⟨_, rfl⟩
  rw [hr, hsa, hsb]
  have HSA := Lib.hid hsa
  have HSB := Lib.hid hsb
  clear hL hT hv hlen h1 h2 hr hsa hsb
  rcases hz with h | h | h
  all_goals
    go_enter Tryd.func33, Tryd.ntmps33
    go_wp2_with fail
    go_loopw [25] (fun v wr => ∃ k : Nat, v = .int .i64 k ∧ k ≤ 25 ∧ Hid (findR n (L.drop k) = findR n L) ∧ Below w.heap.size w wr) (fun v _ => 25 - (intOf v).toNat)
    case atStart => exact ⟨0, by go_num, by omega, Lib.hid rfl, Below.refl _ _⟩
    case round =>
      obtain ⟨k, rfl, hk, HF, hbw⟩ := hrel
      by_cases hlt : k < 25
      · have hkL : k < L.length := by rw [HLEN.out]; exact hlt
        have hcell := (HT.out.below (by rw [HLEN.out]; decide) hbw) k hkL
        obtain ⟨hc0, hc1⟩ := hcell
        have hok := hOK.out L[k] (List.getElem_mem hkL)
        have hcr := fun W => p_cr L[k].1 (fun m hm => by have := hok.1 m hm; omega) (by omega) hok.2.2.1 n HV.out W
        obtain ⟨R, hR⟩ : ∃ R, L[k].1 = R := ⟨_, rfl⟩
        obtain ⟨sx, hsx⟩ : ∃ sx, S (twos R) = sx := ⟨_, rfl⟩
        have HR := Lib.hid hR
        rw [hR] at hc0 hcr
        rw [HRN.out] at hcr
        rw [hsx] at hc0 hcr
        have HCR := Lib.hid hcr
        have dlt : (k : Int) < 25 := by omega
        have b0 : (0 : Int) ≤ k := by omega
        have hce := cells_row
        clear hok hcr hR hsx hlt
        by_cases hm : n ∈ R
        · have dm : decide (n ∈ R) = true := decide_eq_true hm
          rw [dm] at HCR
          have hf := findR_in hkL (by rw [HR.out]; exact hm) HF.out
          have e1 : sa = S L[k].2 := by rw [← HSA.out, hf]; rfl
          have e2 : sb = true := by rw [← HSB.out, hf]; rfl
          rw [← e1] at hc1
          subst e2
          have HC1 := Lib.hid hc1
          clear dm hf e1 hm HF HSA HSB hc1
          go_wp2_with (go_at_call 48; refine (HCR.out _).mono ?_; rintro e w' ⟨rfl, hw⟩; have hc2 := cell_bl HC1.out hw)
          go_leave
          go_ret2
          exact ⟨rfl, below_on hbw hw⟩
        · have dm : decide (n ∈ R) = false := decide_eq_false hm
          rw [dm] at HCR
          have HF2 := Lib.hid (findR_out hkL (by rw [HR.out]; exact hm) HF.out)
          clear dm hm HF hc1
          go_wp2_with (go_at_call 48; refine (HCR.out _).mono ?_; rintro e w' ⟨rfl, hw⟩)
          go_roundw
          case rel => exact ⟨k + 1, by go_num, by omega, HF2, below_on hbw hw⟩
          case measure => simp [intOf]; omega
      · have dlt : ¬ (k : Int) < 25 := by omega
        have hf : findR n L = none := by
          rw [← HF.out, List.drop_of_length_le (by rw [HLEN.out]; omega)]; rfl
        have e1 : sa = ⟨#[]⟩ := by rw [← HSA.out, hf]; rfl
        have e2 : sb = false := by rw [← HSB.out, hf]; rfl
        subst e1 e2
        clear hf HF HSA HSB hlt
        go_wp2_with fail
        go_leave
        go_ret2
        exact ⟨rfl, hbw⟩

set_option maxRecDepth 40000 in
set_option maxHeartbeats 4000000 in
theorem p_lf_up (r : Int) (h1 : (65 : Int) ≤ r) (h2 : r ≤ 90) (w : World) :
    Calls Tryd.prog 33 #[.int .i32 r] w fun e w' => e = .returned (.tuple #[.string (Utf8.encode r), .bool true]) ∧ Below w.heap.size w w' := by
  go_enter Tryd.func33, Tryd.ntmps33
  go_wp2_with fail
  go_leave
  go_ret2
  exact ⟨rfl, Below.refl _ _⟩
set_option maxRecDepth 40000 in
set_option maxHeartbeats 4000000 in
theorem p_lf_lo (r : Int) (h1 : (65 : Int) ≤ r) (h2 : ¬ r ≤ 90) (h3 : (97 : Int) ≤ r) (h4 : r ≤ 122) (w : World) :
    Calls Tryd.prog 33 #[.int .i32 r] w fun e w' => e = .returned (.tuple #[.string (Utf8.encode (r - 32)), .bool true]) ∧ Below w.heap.size w w' := by
  go_enter Tryd.func33, Tryd.ntmps33
  go_wp2_with fail
  go_leave
  go_ret2
  rw [show r - 32 = r - 97 + 65 by omega]
  exact ⟨rfl, Below.refl _ _⟩

theorem p_lf (n : Nat) (hv : Lib.validRune (n : Int) = true) (w : World) (hT : TabL 3 rowsP w) :
    Calls Tryd.prog 33 #[.int .i32 n] w fun e w' => e = .returned (.tuple #[.string (S ((letP n).getD [])), .bool (letP n).isSome]) ∧ Below w.heap.size w w' := by
  unfold letP
  by_cases h1 : 65 ≤ n ∧ n ≤ 90
  · rw [if_pos h1]
    have := p_lf_up n (by omega) (by omega) w
    rw [enc_one n (by omega)] at this
    exact this
  · rw [if_neg h1]
    by_cases h2 : 97 ≤ n ∧ n ≤ 122
    · rw [if_pos h2]
      have := p_lf_lo n (by omega) (by omega) (by omega) (by omega) w
      rw [show (n : Int) - 32 = ((n - 32 : Nat) : Int) by omega, enc_one (n - 32) (by omega)] at this
      exact this
    · rw [if_neg h2]
      exact p_lf_rows n hv h1 h2 w hT

end Go.Proofs.YtfkcnbcifidlgaaDoor
