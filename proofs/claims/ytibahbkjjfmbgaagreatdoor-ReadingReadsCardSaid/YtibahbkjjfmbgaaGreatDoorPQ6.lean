/-
  What is proved here: whether two lists of lines are equal, as the reference finds it.
-/
import Derived.Test.YtibahbkjjfmbgaaGreatDoorPQ1
import Derived.Test.YtibahbkjjfmbgaaGreatDoorPY12
import Derived.Test.YtibahbkjjfmbgaaGreatDoorPQ5
import Derived.Test.YtibahbkjjfmbgaaGreatDoorPX6
import Derived.Test.YtibahbkjjfmbgaaGreatDoorPQpr
namespace Go.Proofs.YtibahbkjjfmbgaaGreatDoor
open Go.RowKit
set_option linter.unusedVariables false
theorem S_toList_ne {x y : List UInt8} (h : x ≠ y) : ((S x).toList == (S y).toList) = false := by
 rw [beq_eq_false_iff_ne]
 intro e
 apply h
 rwa [S_toList, S_toList] at e
set_option maxHeartbeats 1600000 in
theorem r_same_b (X Y : List (List UInt8)) (A B : Option Addr) (n m c d : Nat) (hn : X.length = n) (hm : Y.length = m) (hl : n ≤ 1000000) (b : Bool) (hb : decide (X = Y) = b) (w : World) (ha : Strs w A X) (hs : Strs w B Y) :
 Calls Tryz.prog 24 #[.slice A n c, .slice B m d] w fun e w' => e = .returned (.bool b) ∧ Below w.heap.size w w' := by
 by_cases hnm : n = m
 ·
  subst hnm
  have HA := Lib.hid ha
  have HB := Lib.hid hs
  have HN := Lib.hid (show _ ∧ _ ∧ _ from ⟨hn, hm, hb⟩)
  clear ha hs hn hm hb
  go_enter Tryz.func24, Tryz.ntmps24
  go_wp2
  go_loopw [5] (fun i wr => ∃ (j : Nat), j ≤ n ∧ i = .int .i64 (j : Int) ∧ Hid (Below w.heap.size w wr ∧ ∀ i, i < j → X.getD i [] = Y.getD i [])) (fun i _ => n - (intOf i).toNat)
  case atStart => exact ⟨0, by omega, rfl, Lib.hid ⟨Below.refl _ _, fun i hi => by omega⟩⟩
  case round =>
   obtain ⟨j, hj, rfl, HR⟩ := hrel
   by_cases hlt : j < n
   ·
    have hj0 : (j : Int) < (n : Int) := by omega
    obtain ⟨a1, a2, rfl, a3, a4⟩ := HA.out.cell (by rw [HN.out.1]; omega)
    obtain ⟨b1, b2, rfl, b3, b4⟩ := HB.out.cell (by rw [HN.out.2.1]; omega)
    obtain ⟨x, hx⟩ : ∃ x, X.getD j [] = x := ⟨_, rfl⟩
    obtain ⟨y, hy⟩ : ∃ y, Y.getD j [] = y := ⟨_, rfl⟩
    have ca := a4 j (by rw [HN.out.1]; exact hlt)
    have cb := b4 j (by rw [HN.out.2.1]; exact hlt)
    rw [hx] at ca
    rw [hy] at cb
    have HXY := Lib.hid (show _ ∧ _ from ⟨hx, hy⟩)
    by_cases hxy : x = y
    ·
     subst hxy
     obtain ⟨SX, hSX⟩ : ∃ SX, S x = SX := ⟨_, rfl⟩
     rw [hSX] at ca cb
     have la := fun (d : Nat) (os : Array Obj) => cell_regrown ((HR.out.1.cell (p := ⟨a1, a2 + j, none⟩) a3).trans ca) d os
     have lb := fun (d : Nat) (os : Array Obj) => cell_regrown ((HR.out.1.cell (p := ⟨b1, b2 + j, none⟩) b3).trans cb) d os
     clear a3 a4 b3 b4 ca cb hSX hx hy
     go_wp2_with fail
     refine wp_region_quiet_below (by kernel_rfl) (by kernel_rfl) ?_
     repeat (first | go_big_quiet_skip | (go_big_quiet_want; go_big_quiet_op; go_big_quiet_on))
     refine wpQuiet_nil ?_
     intro w3 hw3
     have H3 := Lib.hid (below_on HR.out.1 (below_of_regrown hw3))
     clear hw3 la lb
     go_wp2
     go_roundw
     case rel => exact ⟨j + 1, by omega, by go_num, Lib.hid ⟨H3.out, fun i hi => by
      by_cases e : i = j
      · rw [e, HXY.out.1, HXY.out.2]
      · exact HR.out.2 i (by omega)⟩⟩
     case measure => simp [intOf]; omega
    ·
     have HF : Hid (b = false) := Lib.hid (by
      rw [← HN.out.2.2, decide_eq_false_iff_not]
      intro e
      exact hxy (by rw [← hx, ← hy, e]))
     have hne := S_toList_ne hxy
     obtain ⟨SX, hSX⟩ : ∃ SX, S x = SX := ⟨_, rfl⟩
     obtain ⟨SY, hSY⟩ : ∃ SY, S y = SY := ⟨_, rfl⟩
     have hne2 : ¬ SX = SY := fun e => hxy (S_inj (by rw [hSX, hSY, e]))
     rw [hSX] at ca hne
     rw [hSY] at cb hne
     have la := fun (d : Nat) (os : Array Obj) => cell_regrown ((HR.out.1.cell (p := ⟨a1, a2 + j, none⟩) a3).trans ca) d os
     have lb := fun (d : Nat) (os : Array Obj) => cell_regrown ((HR.out.1.cell (p := ⟨b1, b2 + j, none⟩) b3).trans cb) d os
     clear a3 a4 b3 b4 ca cb hSX hSY hx hy hxy
     go_wp2_with fail
     refine wp_region_quiet_below (by kernel_rfl) (by kernel_rfl) ?_
     repeat (first | go_big_quiet_skip | (go_big_quiet_want; go_big_quiet_op; go_big_quiet_on))
     refine wpQuiet_nil ?_
     intro w3 hw3
     have H3 := Lib.hid (below_on HR.out.1 (below_of_regrown hw3))
     clear hw3 la lb
     go_wp2
     go_ret
     exact ⟨by rw [HF.out]; rfl, H3.out⟩
   · obtain rfl : j = n := by omega
     have HT : Hid (b = true) := Lib.hid (by
      rw [← HN.out.2.2, decide_eq_true_iff]
      apply List.ext_getElem (by rw [HN.out.1, HN.out.2.1])
      intro i h1 h2
      have := HR.out.2 i (by rw [← HN.out.1]; exact h1)
      rwa [List.getD_eq_getElem?_getD, List.getD_eq_getElem?_getD, List.getElem?_eq_getElem h1, List.getElem?_eq_getElem h2, Option.getD_some, Option.getD_some] at this)
     go_wp2
     go_ret
     exact ⟨by rw [HT.out]; rfl, HR.out.1⟩
 · have HF : Hid (b = false) := Lib.hid (by
    rw [← hb, decide_eq_false_iff_not]
    intro e
    exact hnm (by rw [← hn, ← hm, e]))
   have hnmi : ¬ ((n : Int) = (m : Int)) := by omega
   have HB := Lib.hid (Below.refl w.heap.size w)
   clear ha hs hn hm hb
   go_enter Tryz.func24, Tryz.ntmps24
   go_wp2
   go_ret
   exact ⟨by rw [HF.out]; rfl, HB.out⟩
def Lines2Is (w : World) (D : Nat) (e : Ending) (w' : World) : Prop := ∃ (ls : List (List UInt8)) (n : Nat) (A : Option Addr), shapeL ls ≠ 0 ∧ ls.length = n ∧ e = .returned (.slice A n n) ∧ StrsM w w' A ls ∧ w.grownBy w' (some D) ∧ DiceOk w' D
set_option maxHeartbeats 1600000 in
set_option maxRecDepth 20000 in
theorem dice_lines2 (D : Nat) (w : World) (h : DiceOk w D) : Calls Tryz.prog 17 #[.pointer (some ⟨D, 0, none⟩)] w (Lines2Is w D) := by
 have HD := Lib.hid h
 clear h
 go_enter Tryz.func17, Tryz.ntmps17
 go_wp2_with fail
 refine (dice_zone D w HD.out).mono ?_
 rintro e w1 ⟨z, rfl, hz, hb, hg, hd⟩
 obtain ⟨us, hus⟩ : ∃ us, zV z = us := ⟨_, rfl⟩
 rw [hus]
 obtain ⟨n, hn⟩ : ∃ n, (buildL z).length = n := ⟨_, rfl⟩
 have hsh : shapeL (buildL z) ≠ 0 := by
  have e : buildL z = buildT z := by unfold buildL; rw [if_pos hz]
  rw [e, bk_shape hz]
  have := (vE_ok hz).1
  omega
 have HBD : Hid (∀ w, Calls Tryz.prog 45 #[.agg us.toArray] w fun e w' => ∃ A, e = .returned (.tuple #[.slice A n n, .int .i64 0]) ∧ StrsM w w' A (buildL z) ∧ Below w.heap.size w w') := Lib.hid (fun w => by
  have := r_build_okM z us hb hus hz w
  rw [hn, hz] at this
  exact this)
 have HZ := Lib.hid (show _ ∧ _ ∧ _ ∧ _ ∧ _ from ⟨hz, hg, hn, hd, hsh⟩)
 clear hz hb hg hd hus hn HD hsh
 go_wp2_with (go_at_call 45; ((with_reducible refine (HBD.out _).mono ?_); rintro e w2 ⟨A, rfl, hs, hb⟩); have HS := Lib.hid (And.intro hs hb); clear hs hb)
 go_ret
 exact ⟨buildL z, n, A, HZ.out.2.2.2.2, HZ.out.2.2.1, rfl, HS.out.1.up HZ.out.2.1.size, grown_row (row := none) HZ.out.2.1 (grown_below HS.out.2) (fun g e => by cases e), HZ.out.2.2.2.1.below HS.out.2⟩
theorem shape_len {ls : List (List UInt8)} (h : shapeL ls ≠ 0) : 2 ≤ ls.length ∧ ls.length ≤ 3 := by
 have e : ls.length = (ls.map List.length).length := by simp
 rw [e]
 rcases (shape_lens ls).1 h with h | h | h <;> rw [h] <;> decide
def LnR (w w' : World) (A : Option Addr) (ls : List (List UInt8)) : Prop := ∃ g, A = some ⟨g, 0, none⟩ ∧ w.heap.size ≤ g ∧ RowV w' g (strV ls)
theorem lines_row {w w' : World} {A : Option Addr} {ls : List (List UInt8)} (hsh : shapeL ls ≠ 0) (h : StrsM w w' A ls) : LnR w w' A ls := by
 rcases h.2 with e | e
 · have := (shape_len hsh).1; rw [e] at this; simp at this
 · exact e
theorem lines_grown {w w' w'' : World} {A : Option Addr} {ls : List (List UInt8)} {D : Nat} (h : LnR w w' A ls) (hg : w'.grownBy w'' (some D)) (hD : D < w.heap.size) : Strs w'' A ls := by
 obtain ⟨g, rfl, h1, h2⟩ := h
 exact (h2.grown hg (by intro e; injection e with e; omega)).sees0
end Go.Proofs.YtibahbkjjfmbgaaGreatDoor
