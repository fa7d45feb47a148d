/-
  What is proved here: what stands for a letter, in the reference (letter).
-/
import Derived.Test.YtfkcnbcifidlgaaDoorOlw
namespace Go.Proofs.YtfkcnbcifidlgaaDoor
open Go.RowKit

def letR (n : Nat) : Option (List UInt8) := if 65 ≤ n ∧ n ≤ 90 then some [UInt8.ofNat n] else if 97 ≤ n ∧ n ≤ 122 then some [UInt8.ofNat (n - 32)] else findR n rowsR
theorem rowsR_ok : rowsR.all rowOk = true := by decide +kernel
theorem rowR_ok {r : Rw} (h : r ∈ rowsR) : (∀ n, n ∈ r.1 → 192 ≤ n ∧ n < 384) ∧ (twos r.1).length ≤ 100 ∧ fewB (twos r.1) ∧ r.2.length ≤ 2 := by
  have := List.all_eq_true.1 rowsR_ok r h
  simp only [rowOk, Bool.and_eq_true, decide_eq_true_eq] at this
  obtain ⟨⟨⟨h1, h2⟩, h3⟩, h4⟩ := this
  refine ⟨fun n hn => ?_, h2, fewB_of h3, h4⟩
  have := List.all_eq_true.1 h1 n hn
  simp only [Bool.and_eq_true, decide_eq_true_eq] at this
  exact this
theorem cells_two : Tryd.prog.cellsOf 56 = 2 := by kernel_rfl
theorem cells_i32 : Tryd.prog.cellsOf 21 = 1 := by kernel_rfl

theorem conv_row (R : List Nat) (hR : ∀ n, n ∈ R → 192 ≤ n ∧ n < 384) (hl : (twos R).length ≤ 100) (w : World) :
    (convert 9 47 (.string (S (twos R)))).run Tryd.prog w = .ok (.slice (some ⟨w.heap.size, 0, none⟩) R.length (grownCap w R.length 0 21)) (w.drew.alloc (runeCells w R)) := by
  have h := conv_runes (S (twos R)) (by rw [S_size]; omega) w
  have e : rl (S (twos R)) (S (twos R)).size 0 = R := by
    have := rl_twos R (fun n hn => by have := hR n hn; omega) (S (twos R)).size 0 (by rw [S_size, twos_len]; omega)
    simpa using this
  rw [e] at h
  exact h

set_option maxRecDepth 40000 in
set_option maxHeartbeats 4000000 in
theorem r_let_rows (n : Nat) (h1 : ¬ (65 ≤ n ∧ n ≤ 90)) (h2 : ¬ (97 ≤ n ∧ n ≤ 122)) (w : World) (hT : TabL 4 rowsR w) :
    Calls Tryd.prog 34 #[.int .i32 n] w fun e w' => e = .returned (.string (S ((findR n rowsR).getD []))) ∧ Below w.heap.size w w' := by
  obtain ⟨L, hL⟩ : ∃ L, rowsR = L := ⟨_, rfl⟩
  have hlen : L.length = 26 := by rw [← hL]; rfl
  have hOK : Hid (∀ r, r ∈ L → (∀ n, n ∈ r.1 → 192 ≤ n ∧ n < 384) ∧ (twos r.1).length ≤ 100 ∧ fewB (twos r.1) ∧ r.2.length ≤ 2) := Lib.hid (fun r hr => rowR_ok (by rw [hL]; exact hr))
  rw [hL] at hT ⊢
  have HT := Lib.hid hT
  have HLEN := Lib.hid hlen
  obtain ⟨r, hr⟩ : ∃ r : Int, (n : Int) = r := ⟨_, rfl⟩
  have hz : (¬ (65 : Int) ≤ r ∧ ¬ (97 : Int) ≤ r) ∨ ((65 : Int) ≤ r ∧ ¬ r ≤ 90 ∧ ¬ (97 : Int) ≤ r) ∨ ((65 : Int) ≤ r ∧ ¬ r ≤ 90 ∧ (97 : Int) ≤ r ∧ ¬ r ≤ 122) := by omega
  have HRN := Lib.hid hr
  obtain ⟨sa, hsa⟩ : ∃ sa, S ((findR n L).getD []) = sa := ⟨_, rfl⟩
  rw [hr, hsa]
  have HSA := Lib.hid hsa
  clear hL hT hlen h1 h2 hr hsa
  rcases hz with h | h | h
  all_goals
    go_enter Tryd.func34, Tryd.ntmps34
    go_wp2_with fail
    go_loopw [3] (fun v wr => ∃ k : Nat, v = .int .i64 k ∧ k ≤ 26 ∧ Hid (findR n (L.drop k) = findR n L) ∧ Below w.heap.size w wr) (fun v _ => 26 - (intOf v).toNat)
    case atStart => exact ⟨0, by go_num, by omega, Lib.hid rfl, Below.refl _ _⟩
    case round =>
      obtain ⟨k, rfl, hk, HF, hbw⟩ := hrel
      by_cases hlt : k < 26
      · have hkL : k < L.length := by rw [HLEN.out]; exact hlt
        have hcell := (HT.out.below (by rw [HLEN.out]; decide) hbw) k hkL
        obtain ⟨hc0, hc1⟩ := hcell
        have hok := hOK.out L[k] (List.getElem_mem hkL)
        have hcv := fun W => conv_row L[k].1 hok.1 hok.2.1 W
        obtain ⟨R, hR⟩ : ∃ R, L[k].1 = R := ⟨_, rfl⟩
        obtain ⟨sx, hsx⟩ : ∃ sx, S (twos R) = sx := ⟨_, rfl⟩
        have HR := Lib.hid hR
        rw [hR] at hc0 hcv
        rw [hsx] at hc0 hcv
        have dlt : (k : Int) < 26 := by omega
        have b0 : (0 : Int) ≤ k := by omega
        have hce := cells_two
        have hci := cells_i32
        have hcw := hcv wr
        have HC1 := Lib.hid hc1
        have hR46 : R.length ≤ 100 := by have := hok.2.1; rw [hR, twos_len] at this; omega
        clear hok hcv hR hsx hlt hc1
        go_wp2_with fail
        have hbz : Below w.heap.size w (wr.alloc (runeCells wr R)).drew := (hbw.alloc hbw.size _).drew
        have hcz : ∀ j, (hj : j < R.length) → (wr.alloc (runeCells wr R)).drew.cell? ⟨wr.heap.size, j, none⟩ = some (.int .i32 (R[j] : Nat)) := fun j hj => rune_cell hj
        have hc2 := cell_bl HC1.out (show Below wr.heap.size wr (wr.alloc (runeCells wr R)).drew from ((Below.refl _ wr).alloc (Nat.le_refl _) _).drew)
        obtain ⟨wz, hwz⟩ : ∃ wz, (wr.alloc (runeCells wr R)).drew = wz := ⟨_, rfl⟩
        rw [hwz] at hbz hcz hc2
        rw [hwz]
        have HCZ := Lib.hid hcz
        have HC2 := Lib.hid hc2
        obtain ⟨bz, hbz1⟩ : ∃ bz, wr.heap.size = bz := ⟨_, rfl⟩
        rw [hbz1] at HCZ
        rw [hbz1]
        obtain ⟨cap, hcap⟩ : ∃ cap, grownCap wr R.length 0 21 = cap := ⟨_, rfl⟩
        rw [hcap]
        clear hcz hc2 hwz hbz1 hcap hcw hc0 HC1
        go_loopw [5] (fun v wr2 => ∃ j : Nat, v = .int .i64 j ∧ j ≤ R.length ∧ Hid (∀ t, (ht : t < R.length) → t < j → R[t] ≠ n) ∧ wr2 = wz) (fun v _ => R.length - (intOf v).toNat)
        case atStart => exact ⟨0, by go_num, by omega, Lib.hid (fun t _ h0 => by omega), rfl⟩
        case round =>
          obtain ⟨j, rfl, hj, HN, rfl⟩ := hrel
          by_cases hjl : j < R.length
          · have hcj := HCZ.out j hjl
            have dj : (j : Int) < R.length := by omega
            have bj : (0 : Int) ≤ j := by omega
            obtain ⟨m, hm⟩ : ∃ m : Int, ((R[j] : Nat) : Int) = m := ⟨_, rfl⟩
            have HM := Lib.hid hm
            rw [hm] at hcj
            have hjl2 := Lib.hid hjl
            clear hm
            by_cases he : m = r
            · have hmem : n ∈ L[k].1 := by
                rw [HR.out]
                have : R[j] = n := by have h5 := HM.out; have h6 := HRN.out; omega
                rw [← this]; exact List.getElem_mem _
              have hf := findR_in hkL hmem HF.out
              have e1 : S L[k].2 = sa := by rw [← HSA.out, hf]; rfl
              have hc3 := HC2.out
              rw [e1] at hc3
              have hde : (m == r) = true := by rw [he]; exact beq_self_eq_true _
              clear hmem hf e1 HF HSA he
              go_wp2_with fail
              go_leave
              go_ret
              exact ⟨rfl, hbz⟩
            · have hde : (m == r) = false := by rw [beq_eq_false_iff_ne]; exact he
              have HN2 : Hid (∀ t, (ht : t < R.length) → t < j + 1 → R[t] ≠ n) := Lib.hid (fun t ht h7 => by
                rcases Nat.lt_or_ge t j with c | c
                · exact HN.out t ht c
                · have h8 : t = j := by omega
                  subst h8
                  intro e; exact he (by rw [← HM.out, ← HRN.out, e]))
              clear he
              go_wp2_with fail
              go_roundw
              case rel => exact ⟨j + 1, by go_num, by omega, HN2, by first | trivial | rfl⟩
              case measure => simp [intOf]; omega
          · have hno : ¬ n ∈ L[k].1 := by
              rw [HR.out]
              intro hm
              obtain ⟨t, ht, e⟩ := List.getElem_of_mem hm
              exact HN.out t ht (by omega) e
            have HF2 := Lib.hid (findR_out hkL hno HF.out)
            have dj : ¬ (j : Int) < R.length := by omega
            clear hno HF
            go_wp2_with fail
            go_leave
            go_roundw
            case rel => exact ⟨k + 1, by go_num, by omega, HF2, hbz⟩
            case measure => simp [intOf]; omega
      · have dlt : ¬ (k : Int) < 26 := by omega
        have hf : findR n L = none := by
          rw [← HF.out, List.drop_of_length_le (by rw [HLEN.out]; omega)]; rfl
        have e1 : sa = ⟨#[]⟩ := by rw [← HSA.out, hf]; rfl
        subst e1
        clear hf HF HSA hlt
        go_wp2_with fail
        go_leave
        go_ret
        exact ⟨rfl, hbw⟩

set_option maxRecDepth 40000 in
set_option maxHeartbeats 4000000 in
theorem r_let_up (r : Int) (h1 : (65 : Int) ≤ r) (h2 : r ≤ 90) (w : World) :
    Calls Tryd.prog 34 #[.int .i32 r] w fun e w' => e = .returned (.string (Utf8.encode r)) ∧ Below w.heap.size w w' := by
  go_enter Tryd.func34, Tryd.ntmps34
  go_wp2_with fail
  go_leave
  go_ret
  exact ⟨rfl, Below.refl _ _⟩
set_option maxRecDepth 40000 in
set_option maxHeartbeats 4000000 in
theorem r_let_lo (r : Int) (h1 : (65 : Int) ≤ r) (h2 : ¬ r ≤ 90) (h3 : (97 : Int) ≤ r) (h4 : r ≤ 122) (w : World) :
    Calls Tryd.prog 34 #[.int .i32 r] w fun e w' => e = .returned (.string (Utf8.encode (r - 32))) ∧ Below w.heap.size w w' := by
  go_enter Tryd.func34, Tryd.ntmps34
  go_wp2_with fail
  go_leave
  go_ret
  rw [show r - 32 = r - 97 + 65 by omega]
  exact ⟨rfl, Below.refl _ _⟩

theorem findR_low {n : Nat} : ∀ {L : List Rw}, (∀ r, r ∈ L → ∀ m, m ∈ r.1 → 192 ≤ m ∧ m < 384) → ¬ (192 ≤ n ∧ n < 384) → findR n L = none
  | [], _, _ => rfl
  | r :: L, h, hn => by
    unfold findR
    rw [if_neg (fun hm => hn (h r (by simp) n hm)), findR_low (fun r2 h2 => h r2 (by simp [h2])) hn]
theorem find_same192 : (List.range 192).all (fun d => findR (192 + d) rowsP == findR (192 + d) rowsR) = true := by decide +kernel
theorem find_same (n : Nat) : findR n rowsR = findR n rowsP := by
  by_cases h : 192 ≤ n ∧ n < 384
  · have := List.all_eq_true.1 find_same192 (n - 192) (List.mem_range.2 (by omega))
    rw [show 192 + (n - 192) = n by omega] at this
    exact (eq_of_beq this).symm
  · rw [findR_low (fun r hr => (row_ok hr).1) h, findR_low (fun r hr => (rowR_ok hr).1) h]

theorem r_let (n : Nat) (w : World) (hT : TabL 4 rowsR w) :
    Calls Tryd.prog 34 #[.int .i32 n] w fun e w' => e = .returned (.string (S ((letP n).getD []))) ∧ Below w.heap.size w w' := by
  unfold letP
  by_cases h1 : 65 ≤ n ∧ n ≤ 90
  · rw [if_pos h1]
    have := r_let_up n (by omega) (by omega) w
    rw [enc_one n (by omega)] at this
    exact this
  · rw [if_neg h1]
    by_cases h2 : 97 ≤ n ∧ n ≤ 122
    · rw [if_pos h2]
      have := r_let_lo n (by omega) (by omega) (by omega) (by omega) w
      rw [show (n : Int) - 32 = ((n - 32 : Nat) : Int) by omega, enc_one (n - 32) (by omega)] at this
      exact this
    · rw [if_neg h2, ← find_same]
      exact r_let_rows n h1 h2 w hT

end Go.Proofs.YtfkcnbcifidlgaaDoor
