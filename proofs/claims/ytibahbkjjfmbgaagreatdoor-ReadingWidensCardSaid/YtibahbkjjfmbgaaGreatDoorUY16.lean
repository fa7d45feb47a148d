/-
  What is proved here: plain facts: the lines of a valid zone stand for the zone, but for names that do not fit.
-/
import Derived.Test.YtibahbkjjfmbgaaGreatDoorUY11
import Derived.Test.YtibahbkjjfmbgaaGreatDoorUY14
import Derived.Test.YtibahbkjjfmbgaaGreatDoorUY15
import Derived.Test.YtibahbkjjfmbgaaGreatDoorUQ8
import Derived.Test.YtibahbkjjfmbgaaGreatDoorUY9
namespace Go.Proofs.YtibahbkjjfmbgaaGreatDoor
open Go.RowKit Go.Maps
set_option linter.unusedVariables false
theorem num_fill {x : List UInt8} (h : plainB x = true) : noFill x = true ∧ validL x = true := by
 unfold plainB at h
 simpa only [Bool.and_eq_true] using h
section
variable {z : Zn}
theorem bk_lines (hz : vE z = 0) : LinesOf z.fm (buildT z) := by
 have h1 := (vE_ok hz).1
 refine ⟨linesT_len _ _, fun j hj => ?_⟩
 unfold buildT
 rw [linesT_get _ _ hj, lineT_len, seg_sum h1 hj]
theorem bk_shape (hz : vE z = 0) : shapeL (buildT z) = z.fm := (shape_of (vE_ok hz).1).1 (bk_lines hz)
theorem val_pad {x : List UInt8} (h : validL x = true) (n : Nat) : validL (padT n x) = true := by
 unfold padT
 rw [valid_fill]
 exact val_sub h fun b hb => List.mem_of_mem_take hb
theorem val_field (hz : vE z = 0) : validL (fieldL z.su z.gi (namN z.fm)) = true := by
 obtain ⟨h1, _, _, h4, h5, _⟩ := vE_ok hz
 have hn : 1 ≤ namN z.fm ∧ namN z.fm ≤ 64 := by unfold namN; repeat (first | omega | split)
 have hs := (field_back h4.2 h5 h4.1 hn.1 hn.2).1
 have hb : fieldB (fieldL z.su z.gi (namN z.fm)) = true := by
  unfold spE at hs
  rcases hq : fieldB (fieldL z.su z.gi (namN z.fm)) with _ | _
  · rw [hq] at hs
    split at hs
    · exact absurd hs (by decide)
    · rw [if_pos rfl] at hs; exact absurd hs (by decide)
  · rfl
 refine validL_good fun k hk => ?_
 rcases of_decide_eq_true hb k hk with h | h
 · have := ltr_bd h
   rw [vI_2 this.1 this.2]; omega
 · rw [vI_3 h]; decide
theorem val_ite {c : Prop} [Decidable c] {x y : List UInt8} (hx : validL x = true) (hy : validL y = true) : validL (if c then x else y) = true := by
 by_cases h : c
 · rw [if_pos h]; exact hx
 · rw [if_neg h]; exact hy
theorem bk_tx (hz : vE z = 0) (k : Nat) : validL (tx2 z k) = true := by
 obtain ⟨h1, h2, h3, h4, h5, h6, h7, h8, h9, h10, h11, h12, h13, h14, h15⟩ := vE_ok hz
 have hv := (num_fill h6.2).2
 have hr : validL (restT z) = true := by rw [rest_seg, val_app, (val_num hv).2, extra_ok h12]; rfl
 unfold tx2
 refine val_ite (val_dg _) ?_
 unfold tx
 exact val_ite (val_code h2) (val_ite (val_code h3) (val_ite (val_field hz) (val_ite (val_sub hv fun b hb => List.mem_of_mem_take hb) (val_ite (val_ite rfl (val_dg _)) (val_ite (val_code h8) (val_ite (bir_ok h9) (val_ite (val_dg _) (val_ite (val_sex h10)
  (val_ite (exp_ok h11).2 (val_ite (val_dg _) (val_ite hr (val_ite (val_ite rfl (val_dg _)) (val_ite (extra_ok h13) rfl)))))))))))))
theorem bk_valid (hz : vE z = 0) : allV (buildT z) = true := by
 unfold allV buildT linesT
 rw [List.all_eq_true]
 intro x hx
 obtain ⟨i, _, rfl⟩ := List.mem_map.1 hx
 have key : ∀ sg : List (Nat × Nat), validL (lineT sg (tx2 z)) = true := by
  intro sg
  induction sg with
  | nil => rfl
  | cons p r ih => rw [lineT_cons, val_app, ih, val_pad (bk_tx hz _)]; rfl
 exact key _
end
section
variable {f : Int} {ls : List (List UInt8)}
end
section
open Go.RowKit
variable {P : Program} {a : Act} {w w' : World} {K : Act → World → Prop} {Q : Exit → Act → World → Prop} {o : Oper}
end
end Go.Proofs.YtibahbkjjfmbgaaGreatDoor
namespace Go.Proofs.YtibahbkjjfmbgaaGreatDoor
open Go.RowKit
set_option linter.unusedVariables false
end Go.Proofs.YtibahbkjjfmbgaaGreatDoor
