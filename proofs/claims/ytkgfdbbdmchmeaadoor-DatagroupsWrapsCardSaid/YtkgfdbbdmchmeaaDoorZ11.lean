/-
  What is proved here: what the makers' dice give: numbers in their range (Next, One); nothing else that was there is turned.
-/
import Derived.Test.YtkgfdbbdmchmeaaDoorRows
import Derived.Test.YtkgfdbbdmchmeaaDoorZ0
import Derived.Test.YtkgfdbbdmchmeaaDoorZ6
import Derived.Test.YtkgfdbbdmchmeaaDoorZ7
import Derived.Test.YtkgfdbbdmchmeaaDoorZ10
import Derived.BigQuiet
namespace Go.Proofs.YtkgfdbbdmchmeaaDoor
open Go.RowKit
set_option maxRecDepth 8000
set_option linter.unusedVariables false
def DiceOk (w : World) (D : Nat) : Prop := ∃ (AL : Option Addr) (cL k : Nat) (ls : List Int), w.heap[D]? = some (.cells #[.slice AL ls.length cL, .int .i64 (k : Int)] 47 (0, 0)) ∧
  k ≤ ls.length ∧ ls.length ≤ 140737488351232 ∧ (∀ x ∈ ls, -9223372036854775808 ≤ x ∧ x ≤ 9223372036854775807) ∧ SeesP w (· < D) AL (ls.map (Value.int .i64))
theorem DiceOk.lt {w : World} {D : Nat} (h : DiceOk w D) : D < w.heap.size := by
  obtain ⟨_, _, _, _, h1, _⟩ := h
  exact lt_of_block h1
theorem DiceOk.keep {w w' : World} {D : Nat} (h : DiceOk w D) (hk : ∀ k, k ≤ D → w'.heap[k]? = w.heap[k]?) : DiceOk w' D := by
  obtain ⟨AL, cL, k, ls, h1, h2, h3, h4, h5⟩ := h
  exact ⟨AL, cL, k, ls, (hk D (Nat.le_refl _)).trans h1, h2, h3, h4, h5.keep fun q hq => World.cell?_of_block (hk _ (Nat.le_of_lt hq))⟩
theorem DiceOk.below {w w' : World} {D : Nat} (h : DiceOk w D) (hb : Below w.heap.size w w') : DiceOk w' D :=
  h.keep fun k hk => hb.block k (Nat.lt_of_le_of_lt hk h.lt)
theorem DiceOk.grown {w w' : World} {D : Nat} {row : Option Nat} (h : DiceOk w D) (hg : w.grownBy w' row) (hr : ∀ g, row = some g → D < g) : DiceOk w' D :=
  h.keep fun k hk => hg.block k (Nat.lt_of_le_of_lt hk h.lt) (by intro e; have := hr k e.symm; omega)
def NextIs (w : World) (D n : Nat) (e : Ending) (w' : World) : Prop := ∃ r : Nat, r < n ∧ e = .returned (.int .i64 (r : Int)) ∧ w.grownBy w' (some D) ∧ DiceOk w' D
set_option maxHeartbeats 1000000 in
theorem dice_next (D n : Nat) (w : World) (hn : 0 < n) (hn2 : n ≤ 4611686018427387903) (h : DiceOk w D) :
    Calls Tryd.prog 25 #[.pointer (some ⟨D, 0, none⟩), .int .i64 (n : Int)] w (NextIs w D n) := by
  obtain ⟨AL, cL, k, ls, h1, h2, h3, h4, h5⟩ := h
  have c0 := cell_of_row w D 0 _ _ _ h1
  have c1 := cell_of_row w D 1 _ _ _ h1
  have f1 := frozen_of_row w D 1 _ _ h1
  simp only [List.getElem?_toArray, List.getElem?_cons_succ, List.getElem?_cons_zero] at c0 c1
  by_cases hlt : k < ls.length
  · obtain ⟨x, hx⟩ : ∃ x, x = ls[k] := ⟨_, rfl⟩
    have hxr := h4 x (by rw [hx]; exact List.getElem_mem hlt)
    obtain ⟨b, o, hA, hb, hc⟩ : ∃ b o, AL = some ⟨b, o, none⟩ ∧ b < D ∧ w.cell? ⟨b, o + k, none⟩ = some (.int .i64 x) := by
      rcases h5 with h | ⟨b, o, e, hb, hc⟩
      · have : ls = [] := by simpa using h
        subst this; simp at hlt
      · exact ⟨b, o, e, hb, (hc k (by simpa using hlt)).trans (by simp [hlt, hx])⟩
    have hne : b ≠ D := by omega
    have HS := Lib.hid h5
    subst hA
    obtain ⟨r, hr⟩ : ∃ r : Nat, x % (n : Int) = (r : Int) := ⟨(x % (n : Int)).toNat, by have := Int.emod_nonneg x (show (n : Int) ≠ 0 by omega); omega⟩
    have hrn : r < n := by have := Int.emod_lt_of_pos x (show (0 : Int) < n by omega); omega
    have hM : ∀ u, Calls Tryd.prog 40 #[.int .i64 x, .int .i64 (n : Int)] u fun e w' => e = .returned (.int .i64 (r : Int)) ∧ ∃ q, w' = u.drewN q := fun u => by
      have := made_mod x (n : Int) hxr.1 hxr.2 (by omega) (by omega) u
      rw [hr] at this
      exact this.mono fun e w' ⟨h1, h2⟩ => ⟨h1, 0, h2⟩
    have HM := Lib.hid hM
    have H1 := Lib.hid (show _ ∧ (∀ x ∈ ls, -9223372036854775808 ≤ x ∧ x ≤ 9223372036854775807) from ⟨h1, h4⟩)
    clear hM hx hr h1 h4 h5 hxr
    go_enter Tryd.func25, Tryd.ntmps25
    go_wp2_with fail
    go_quiet (fail)
    go_wp2_with fail
    obtain ⟨W, hW⟩ : ∃ W, W = (w.drewN nq).setCell ⟨D, 1, none⟩ (.int .i64 ((k : Int) + 1)) := ⟨_, rfl⟩
    have e0 : W.cell? ⟨D, 0, none⟩ = some (.slice (some ⟨b, o, none⟩) ls.length cL) := by rw [hW, cell_of_row _ D 0 _ _ _ (block_set (w := w.drewN nq) (i := 1) H1.out.1 _)]; rfl
    have e1 : W.cell? ⟨D, 1, none⟩ = some (.int .i64 ((k : Int) + 1)) := by rw [hW, cell_of_row _ D 1 _ _ _ (block_set (w := w.drewN nq) (i := 1) H1.out.1 _)]; rfl
    have e2 : W.cell? ⟨b, o + k, none⟩ = some (.int .i64 x) := by rw [hW]; exact (World.cell?_of_block (Below.heap_setCell _ _ _ b hne)).trans hc
    have hg : w.grownBy W (some D) := by
      rw [hW]
      exact ⟨rfl, rfl, rfl, Nat.le_of_eq (by simp), fun j _ hj => Below.heap_setCell (w.drewN nq) _ _ j (by simpa using fun e => hj (by rw [e]))⟩
    have hd : DiceOk W D := ⟨some ⟨b, o, none⟩, cL, k + 1, ls, by rw [hW]; exact block_set (w := w.drewN nq) (i := 1) H1.out.1 _, by omega, h3, H1.out.2, HS.out.keep fun q hq => grown_cell hg (Nat.lt_trans hq (lt_of_block H1.out.1)) (Nat.ne_of_lt hq)⟩
    have HF := Lib.hid (show ∀ q, NextIs w D n (.returned (.int .i64 (r : Int))) (W.drewN q) from fun q => ⟨r, hrn, rfl, ⟨hg.os, hg.tape, hg.output, hg.size, hg.block⟩, hd.keep fun _ _ => rfl⟩)
    rw [← hW]
    clear hW hg hd c0 c1 f1 hc HS H1
    go_quiet ((go_at_call 40; exact Calls.quiet_of (HM.out _)))
    go_wp2_with fail
    go_ret
    exact HF.out _
  · have HF := Lib.hid (show DiceOk w D from ⟨AL, cL, k, ls, h1, h2, h3, h4, h5⟩)
    clear h1 h4 h5
    go_enter Tryd.func25, Tryd.ntmps25
    go_wp2_with fail
    go_quiet (fail)
    go_wp2_with fail
    go_ret
    exact ⟨0, hn, rfl, ⟨rfl, rfl, rfl, Nat.le_refl _, fun _ _ _ => rfl⟩, HF.out.keep fun _ _ => rfl⟩
def OneIs (w : World) (D : Nat) (e : Ending) (w' : World) : Prop := ∃ q : Bool, e = .returned (.bool q) ∧ w.grownBy w' (some D) ∧ DiceOk w' D
theorem dice_one (D n : Nat) (w : World) (hn : 0 < n) (hn2 : n ≤ 4611686018427387903) (h : DiceOk w D) :
    Calls Tryd.prog 26 #[.pointer (some ⟨D, 0, none⟩), .int .i64 (n : Int)] w (OneIs w D) := by
  have HN := Lib.hid (dice_next D n w hn hn2 h)
  clear h
  go_enter Tryd.func26, Tryd.ntmps26
  go_wp2_with fail
  refine HN.out.mono ?_
  rintro e w1 ⟨r, hr, rfl, hg, hd⟩
  have HF := Lib.hid (show _ ∧ _ from ⟨hg, hd⟩)
  clear hg hd
  go_wp2_with fail
  go_ret
  exact ⟨_, rfl, HF.out.1, HF.out.2⟩
def TagRs (w : World) (D : Nat) (c : Bool) (e : Ending) (w' : World) : Prop := ∃ t : Nat, e = .returned (.int .i64 (t : Int)) ∧ validB t = true ∧ consB t = c ∧ w.grownBy w' (some D) ∧ DiceOk w' D
theorem tag_two {r1 r2 : Nat} (h1 : r1 < 4) (h2 : r2 < 127) (c : Nat) (hc : c ≤ 1) : validB ((256 * (31 + 64 * r1) + 1 + r2 + 8192 * c : Nat) : Int) = true ∧ consB ((256 * (31 + 64 * r1) + 1 + r2 + 8192 * c : Nat) : Int) = decide (c = 1) := by
  have hv : validB ((256 * (31 + 64 * r1) + 1 + r2 + 8192 * c : Nat) : Int) = true := by
    unfold validB
    rw [if_neg (by omega)]
    simp only [Bool.and_eq_true, decide_eq_true_eq]
    omega
  refine ⟨hv, ?_⟩
  unfold consB firstB
  rw [hv, Bool.true_and, if_neg (by omega)]
  by_cases h : c = 1
  · rw [decide_eq_true (by omega), decide_eq_true h]
  · rw [decide_eq_false (by omega), decide_eq_false h]
theorem tag_one {r1 r2 : Nat} (h1 : r1 < 30) (h2 : r2 < 4) (c : Nat) (hc : c ≤ 1) : validB ((1 + r1 + 64 * r2 + 32 * c : Nat) : Int) = true ∧ consB ((1 + r1 + 64 * r2 + 32 * c : Nat) : Int) = decide (c = 1) := by
  have hv : validB ((1 + r1 + 64 * r2 + 32 * c : Nat) : Int) = true := by
    unfold validB
    rw [if_pos (by omega)]
    simp only [Bool.and_eq_true, decide_eq_true_eq]
    omega
  refine ⟨hv, ?_⟩
  unfold consB firstB
  rw [hv, Bool.true_and, if_pos (by omega)]
  by_cases h : c = 1
  · rw [decide_eq_true (by omega), decide_eq_true h]
  · rw [decide_eq_false (by omega), decide_eq_false h]
theorem tag_is {w w' : World} {D : Nat} {c : Bool} {t : Nat} {z : Int} (hz : z = (t : Int)) (h : validB (t : Int) = true ∧ consB (t : Int) = c) (hg : w.grownBy w' (some D)) (hd : DiceOk w' D) : TagRs w D c (.returned (.int .i64 z)) w' :=
  ⟨t, by rw [hz], h.1, h.2, hg, hd⟩
set_option maxHeartbeats 1000000 in
theorem dice_tag (D : Nat) (c : Bool) (w : World) (h : DiceOk w D) :
    Calls Tryd.prog 27 #[.pointer (some ⟨D, 0, none⟩), .bool c] w (TagRs w D c) := by
  have HN := Lib.hid (dice_next D 4 w (by decide) (by decide) h)
  clear h
  go_enter Tryd.func27, Tryd.ntmps27
  go_wp2_with fail
  refine HN.out.mono ?_
  rintro e w1 ⟨r, hr, rfl, hg, hd⟩
  by_cases h0 : r = 0
  · subst h0
    have HN1 := Lib.hid (dice_next D 4 w1 (by decide) (by decide) hd)
    have HG := Lib.hid hg
    clear HN hd hg
    go_wp2_with fail
    refine HN1.out.mono ?_
    rintro e w2 ⟨r1, hr1, rfl, hg, hd⟩
    have HN2 := Lib.hid (dice_next D 127 w2 (by decide) (by decide) hd)
    have HG1 := Lib.hid (grown_trans HG.out hg)
    clear HN1 hd hg
    go_wp2_with fail
    refine HN2.out.mono ?_
    rintro e w3 ⟨r2, hr2, rfl, hg, hd⟩
    have HG2 := Lib.hid (show _ ∧ _ from ⟨grown_trans HG1.out hg, hd⟩)
    clear HN2 hd hg
    cases c
    · go_wp2_with fail
      go_ret
      exact tag_is (t := 256 * (31 + 64 * r1) + 1 + r2 + 8192 * 0) (by omega) (tag_two hr1 hr2 0 (by decide)) HG2.out.1 HG2.out.2
    · go_wp2_with fail
      go_ret
      exact tag_is (t := 256 * (31 + 64 * r1) + 1 + r2 + 8192 * 1) (by omega) (tag_two hr1 hr2 1 (by decide)) HG2.out.1 HG2.out.2
  · have HN1 := Lib.hid (dice_next D 30 w1 (by decide) (by decide) hd)
    have HG := Lib.hid hg
    have d0 : ((r : Int) == 0) = false := by simp; omega
    have d0' : (r == 0) = false := by simp; omega
    clear HN hd hg
    go_wp2_with fail
    refine HN1.out.mono ?_
    rintro e w2 ⟨r1, hr1, rfl, hg, hd⟩
    have HN2 := Lib.hid (dice_next D 4 w2 (by decide) (by decide) hd)
    have HG1 := Lib.hid (grown_trans HG.out hg)
    clear HN1 hd hg
    go_wp2_with fail
    refine HN2.out.mono ?_
    rintro e w3 ⟨r2, hr2, rfl, hg, hd⟩
    have HG2 := Lib.hid (show _ ∧ _ from ⟨grown_trans HG1.out hg, hd⟩)
    clear HN2 hd hg
    cases c
    · go_wp2_with fail
      go_ret
      exact tag_is (t := 1 + r1 + 64 * r2 + 32 * 0) (by omega) (tag_one hr1 hr2 0 (by decide)) HG2.out.1 HG2.out.2
    · go_wp2_with fail
      go_ret
      exact tag_is (t := 1 + r1 + 64 * r2 + 32 * 1) (by omega) (tag_one hr1 hr2 1 (by decide)) HG2.out.1 HG2.out.2
end Go.Proofs.YtkgfdbbdmchmeaaDoor
