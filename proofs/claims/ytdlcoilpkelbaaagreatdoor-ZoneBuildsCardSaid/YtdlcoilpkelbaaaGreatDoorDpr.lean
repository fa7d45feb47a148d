/-
  What is proved here: what the reference's Parse of days returns, for every text and number: the same as the program's.
-/
import Derived.Test.YtdlcoilpkelbaaaGreatDoorDps
namespace Go.Proofs.YtdlcoilpkelbaaaGreatDoor
open Go.RowKit

/-- what the loop keeps -/
def RfRel (s : ByteArray) (w : World) (k : Nat) (wr : World) : Prop := Below w.heap.size w wr ∧ Prs s k w.heap.size wr ∧ allDig s k
theorem RfRel.step {s : ByteArray} {w wr : World} {k j n : Nat} {v : Int} (h : RfRel s w k wr) (hk : k < 6) (hj : j = k / 2) (hv : v = pr s (k + 1) j) (hd : dig s k = true) : RfRel s w (k + 1) ((wr.drewN n).setCell ⟨w.heap.size, j, none⟩ (.int .i64 v)) := by
  obtain ⟨hb, h1, h2⟩ := h
  exact ⟨(below_dn hb n).setCell (by simp) _, (h1.drewN n).step hk hj hv, allDig_succ h2 hd⟩
theorem RfRel.start (s : ByteArray) (w : World) : RfRel s w 0 (w.alloc (.cells #[.int .i64 0, .int .i64 0, .int .i64 0] 99)) :=
  ⟨(Below.refl _ _).alloc (Nat.le_refl _) _, Prs.zero s (heap_alloc_new w _), fun q h => by omega⟩

set_option maxHeartbeats 4000000 in
theorem r_parse (s : ByteArray) (f : Int) (w : World) (_m : s.size ≤ maxLen) :
    Calls Tryz.prog 54 #[.string s, .int .i64 f] w (PsEnd s f w) := by
  by_cases h1 : f < 1900
  · have H := @ps_range s f w w (.inl h1) (Below.refl _ _)
    have d1 : decide (f < 1900) = true := by simpa using h1
    clear h1
    go_enter Tryz.func54, Tryz.ntmps54
    go_wp2
    go_ret2
    exact H
  · have d1 : decide (f < 1900) = false := by simpa using h1
    by_cases h2 : 2000 < f
    · have H := @ps_range s f w w (.inr h2) (Below.refl _ _)
      have d2 : decide (2000 < f) = true := by simpa using h2
      clear h1 h2
      go_enter Tryz.func54, Tryz.ntmps54
      go_wp2
      go_ret2
      exact H
    · have d2 : decide (2000 < f) = false := by simpa using h2
      have f1 : 1900 ≤ f := by omega
      have f2 : f ≤ 2000 := by omega
      clear h1 h2
      by_cases h6 : s.size = 6
      · have d6 : ((s.size : Int) != 6) = false := by simp; omega
        have H6 := Lib.hid h6
        have z1 : s.size ≤ 6 := by omega
        have z2 : 6 ≤ s.size := by omega
        have HF := Lib.hid (fun w' (h : rpOk s = false) (hb : Below w.heap.size w w') => ps_form f1 f2 h hb)
        have HS := Lib.hid (fun w' (h : rpOk s = true) (hb : Below w.heap.size w w') => ps_ok f1 f2 h hb)
        clear h6
        go_enter Tryz.func54, Tryz.ntmps54
        go_wp2
        go_loopw [7] (fun i wr => ∃ k : Nat, k ≤ 6 ∧ i = .int .i64 (k : Int) ∧ Hid (RfRel s w k wr)) (fun i _ => 6 - (intOf i).toNat)
        case atStart => exact ⟨0, by omega, rfl, Lib.hid (RfRel.start s w)⟩
        case round =>
          obtain ⟨k, hk, rfl, HR⟩ := hrel
          by_cases hlt : k < 6
          · have hks : k < s.size := by omega
            have hc := ch_at s k hks
            obtain ⟨c, hcc⟩ : ∃ c, c = ch s k := ⟨_, rfl⟩
            have hc8 : c < 256 := by rw [hcc]; exact ch_lt s k
            rw [← hcc] at hc
            have HC := Lib.hid hcc
            have hi : (s[k].toNat : Int) = (c : Int) := by rw [hc]
            clear hcc hc
            by_cases hD : dig s k = true
            · have hd := dig_bd hD
              rw [← HC.out] at hd
              obtain ⟨hd1, hd2⟩ := hd
              have t1 : decide ((c : Int) < 48) = false := by simp; omega
              have t2 : decide ((57 : Int) < (c : Int)) = false := by simp; omega
              have b1 := HR.out.2.1
              unfold Prs at b1
              have hk6 : k = 0 ∨ k = 1 ∨ k = 2 ∨ k = 3 ∨ k = 4 ∨ k = 5 := by omega
              have HD := Lib.hid hD
              clear hD
              have hbd : ∀ j, -1000 ≤ pr s k j ∧ pr s k j ≤ 10000 := fun j => by
                have h1 := ch_lt s (2 * j)
                have h2 := ch_lt s (2 * j + 1)
                unfold pr; repeat' split
                all_goals omega
              rcases hk6 with rfl | rfl | rfl | rfl | rfl | rfl
              · have hb0 := hbd 0
                have c0 : wr.cell? ⟨w.heap.size, 0, none⟩ = some (.int .i64 (pr s 0 0)) := cell_of_row wr w.heap.size 0 _ _ _ b1
                have f0 := frozen_of_row wr w.heap.size 0 _ _ b1
                have hv : 10 * pr s 0 0 + ((c : Int) - 48) = pr s (0 + 1) 0 := by rw [HC.out]; simp [pr]
                have HV := Lib.hid hv
                clear b1 hbd hv
                go_wp2
                go_region
                all_goals
                  go_wp2
                  go_roundw
                  case rel => exact ⟨1, by omega, by go_num, Lib.hid (HR.out.step hlt rfl HV.out HD.out)⟩
                  case measure => simp [intOf]
              · have hb0 := hbd 0
                have c0 : wr.cell? ⟨w.heap.size, 0, none⟩ = some (.int .i64 (pr s 1 0)) := cell_of_row wr w.heap.size 0 _ _ _ b1
                have f0 := frozen_of_row wr w.heap.size 0 _ _ b1
                have hv : 10 * pr s 1 0 + ((c : Int) - 48) = pr s (1 + 1) 0 := by rw [HC.out]; simp [pr]; omega
                have HV := Lib.hid hv
                clear b1 hbd hv
                go_wp2
                go_region
                all_goals
                  go_wp2
                  go_roundw
                  case rel => exact ⟨2, by omega, by go_num, Lib.hid (HR.out.step hlt rfl HV.out HD.out)⟩
                  case measure => simp [intOf]
              · have hb0 := hbd 1
                have c0 : wr.cell? ⟨w.heap.size, 1, none⟩ = some (.int .i64 (pr s 2 1)) := cell_of_row wr w.heap.size 1 _ _ _ b1
                have f0 := frozen_of_row wr w.heap.size 1 _ _ b1
                have hv : 10 * pr s 2 1 + ((c : Int) - 48) = pr s (2 + 1) 1 := by rw [HC.out]; simp [pr]
                have HV := Lib.hid hv
                clear b1 hbd hv
                go_wp2
                go_region
                all_goals
                  go_wp2
                  go_roundw
                  case rel => exact ⟨3, by omega, by go_num, Lib.hid (HR.out.step hlt rfl HV.out HD.out)⟩
                  case measure => simp [intOf]
              · have hb0 := hbd 1
                have c0 : wr.cell? ⟨w.heap.size, 1, none⟩ = some (.int .i64 (pr s 3 1)) := cell_of_row wr w.heap.size 1 _ _ _ b1
                have f0 := frozen_of_row wr w.heap.size 1 _ _ b1
                have hv : 10 * pr s 3 1 + ((c : Int) - 48) = pr s (3 + 1) 1 := by rw [HC.out]; simp [pr]; omega
                have HV := Lib.hid hv
                clear b1 hbd hv
                go_wp2
                go_region
                all_goals
                  go_wp2
                  go_roundw
                  case rel => exact ⟨4, by omega, by go_num, Lib.hid (HR.out.step hlt rfl HV.out HD.out)⟩
                  case measure => simp [intOf]
              · have hb0 := hbd 2
                have c0 : wr.cell? ⟨w.heap.size, 2, none⟩ = some (.int .i64 (pr s 4 2)) := cell_of_row wr w.heap.size 2 _ _ _ b1
                have f0 := frozen_of_row wr w.heap.size 2 _ _ b1
                have hv : 10 * pr s 4 2 + ((c : Int) - 48) = pr s (4 + 1) 2 := by rw [HC.out]; simp [pr]
                have HV := Lib.hid hv
                clear b1 hbd hv
                go_wp2
                go_region
                all_goals
                  go_wp2
                  go_roundw
                  case rel => exact ⟨5, by omega, by go_num, Lib.hid (HR.out.step hlt rfl HV.out HD.out)⟩
                  case measure => simp [intOf]
              · have hb0 := hbd 2
                have c0 : wr.cell? ⟨w.heap.size, 2, none⟩ = some (.int .i64 (pr s 5 2)) := cell_of_row wr w.heap.size 2 _ _ _ b1
                have f0 := frozen_of_row wr w.heap.size 2 _ _ b1
                have hv : 10 * pr s 5 2 + ((c : Int) - 48) = pr s (5 + 1) 2 := by rw [HC.out]; simp [pr]; omega
                have HV := Lib.hid hv
                clear b1 hbd hv
                go_wp2
                go_region
                all_goals
                  go_wp2
                  go_roundw
                  case rel => exact ⟨6, by omega, by go_num, Lib.hid (HR.out.step hlt rfl HV.out HD.out)⟩
                  case measure => simp [intOf]
            · have hD : dig s k = false := by simpa using hD
              have HN := Lib.hid (rpOk_no hlt hD)
              have HB := Lib.hid HR.out.1
              have hd : c < 48 ∨ 57 < c := by
                rw [HC.out]
                by_cases h : ch s k < 48
                · exact .inl h
                · right; unfold dig at hD; rw [Bool.and_eq_false_iff] at hD; simp at hD; omega
              clear hD
              rcases hd with hd | hd
              · have t1 : decide ((c : Int) < 48) = true := by simp; omega
                go_wp2
                go_ret2
                exact HF.out _ HN.out HB.out
              · have t1 : decide ((c : Int) < 48) = false := by simp; omega
                have t2 : decide ((57 : Int) < (c : Int)) = true := by simp; omega
                go_wp2
                go_ret2
                exact HF.out _ HN.out HB.out
          · obtain rfl : k = 6 := by omega
            have hg := HR.out.2.2
            have hok := rpOk_yes H6.out hg
            have p0 := pr_bd hok 0 (by omega)
            have HG := Lib.hid hok
            have HB := Lib.hid HR.out.1
            have b1 := HR.out.2.1
            unfold Prs at b1
            have c0 : wr.cell? ⟨w.heap.size, 0, none⟩ = some (.int .i64 (pr s 6 0)) := cell_of_row wr w.heap.size 0 _ _ _ b1
            have c1 : wr.cell? ⟨w.heap.size, 1, none⟩ = some (.int .i64 (pr s 6 1)) := cell_of_row wr w.heap.size 1 _ _ _ b1
            have c2 : wr.cell? ⟨w.heap.size, 2, none⟩ = some (.int .i64 (pr s 6 2)) := cell_of_row wr w.heap.size 2 _ _ _ b1
            clear b1 hg hok
            by_cases hy : f - f % 100 + pr s 6 0 < f
            · have HY : Hid (fy (pr s 6 0) f = f - f % 100 + pr s 6 0 + 100) := Lib.hid (by unfold fy; rw [if_pos hy])
              have HS2 := HS.out wr HG.out HB.out
              rw [HY.out] at HS2
              go_wp2_with ((go_at_call 93; with_reducible refine (r_of _ _ _ _).mono ?_); rintro e w' ⟨rfl, rfl⟩)
              go_ret2
              exact HS2
            · have HY : Hid (fy (pr s 6 0) f = f - f % 100 + pr s 6 0) := Lib.hid (by unfold fy; rw [if_neg hy])
              have HS2 := HS.out wr HG.out HB.out
              rw [HY.out] at HS2
              go_wp2_with ((go_at_call 93; with_reducible refine (r_of _ _ _ _).mono ?_); rintro e w' ⟨rfl, rfl⟩)
              go_ret2
              exact HS2
      · have d6 : ((s.size : Int) != 6) = true := by simp; omega
        have H := @ps_form s f w w f1 f2 (rpOk_size h6) (Below.refl _ _)
        clear h6
        go_enter Tryz.func54, Tryz.ntmps54
        go_wp2
        go_ret2
        exact H
end Go.Proofs.YtdlcoilpkelbaaaGreatDoor
