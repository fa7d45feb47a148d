/-
  What is proved here: the reference's complete and Count, for any reading.
-/
import Derived.Test.YtibahbkjjfmbgaaGreatDoorUQ1
import Derived.Test.YtibahbkjjfmbgaaGreatDoorUY15
import Derived.Test.YtibahbkjjfmbgaaGreatDoorUZym
import Derived.Test.YtibahbkjjfmbgaaGreatDoorUY17
import Derived.Test.YtibahbkjjfmbgaaGreatDoorUY12
namespace Go.Proofs.YtibahbkjjfmbgaaGreatDoor
open Go.RowKit
set_option linter.unusedVariables false
set_option maxHeartbeats 1600000 in
theorem r_same2 (X : List (List (List UInt8))) (A B : Option Addr) (n c d : Nat) (hn : X.length = n) (hl : n ≤ 1000000) (hx : ∀ x ∈ X, x.length ≤ 1000000) (w : World) (ha : Rdg w A X) (hb : Rdg w B X) :
 Calls Tryz.prog 15 #[.slice A n c, .slice B n d] w fun e w' => e = .returned (.bool true) ∧ Below w.heap.size w w' := by
 have HA := Lib.hid ha
 have HBB := Lib.hid hb
 have HN := Lib.hid (show _ ∧ _ from ⟨hn, hx⟩)
 clear ha hb hn hx
 go_enter Tryz.func15, Tryz.ntmps15
 go_wp2
 go_loopw [5] (fun i wr => ∃ (j : Nat), j ≤ n ∧ i = .int .i64 (j : Int) ∧ Hid (Below w.heap.size w wr)) (fun i _ => n - (intOf i).toNat)
 case atStart => exact ⟨0, by omega, rfl, Lib.hid (Below.refl _ _)⟩
 case round =>
  obtain ⟨j, hj, rfl, HW⟩ := hrel
  by_cases hlt : j < n
  ·
   have hj0 : (j : Int) < (n : Int) := by omega
   have hjl : j < X.length := by rw [HN.out.1]; exact hlt
   obtain ⟨b1, o1, A1, c1, rfl, hc1, hs1⟩ := (HA.out.on HW.out).cell hjl
   obtain ⟨b2, o2, A2, c2, rfl, hc2, hs2⟩ := (HBB.out.on HW.out).cell hjl
   have hxm : (X.getD j []).length ≤ 1000000 := HN.out.2 _ (by rw [List.getD_eq_getElem?_getD, List.getElem?_eq_getElem hjl]; exact List.getElem_mem _)
   obtain ⟨x, hx⟩ : ∃ x, X.getD j [] = x := ⟨_, rfl⟩
   obtain ⟨ln, hln⟩ : ∃ ln, x.length = ln := ⟨_, rfl⟩
   rw [hx] at hc1 hc2 hs1 hs2 hxm
   rw [hln] at hc1 hc2 hxm
   have la := fun (d : Nat) (os : Array Obj) => cell_regrown hc1 d os
   have lb := fun (d : Nat) (os : Array Obj) => cell_regrown hc2 d os
   have q1 := quiet_up (w := wr) (fun w' hb => r_same_eq x A1 A2 ln c1 c2 hln hxm w' (Strs.on hs1 hb) (Strs.on hs2 hb))
   clear hx hln hc1 hc2 hs1 hs2 hxm hjl
   go_wp2_with fail
   refine wp_region_quiet_below (by kernel_rfl) (by kernel_rfl) ?_
   repeat (first | go_big_quiet_skip | (go_big_quiet_want; go_big_quiet_op; go_big_quiet_on) | quiet_step (with_reducible exact q1 _ _))
   refine wpQuiet_nil ?_
   intro w3 hw3
   have H3 := Lib.hid (below_on HW.out (below_of_regrown hw3))
   clear hw3 la lb q1
   go_wp2
   go_roundw
   case rel => exact ⟨j + 1, by omega, by go_num, H3⟩
   case measure => simp [intOf]; omega
  · obtain rfl : j = n := by omega
    go_wp2
    go_ret
    exact ⟨rfl, HW.out⟩
end Go.Proofs.YtibahbkjjfmbgaaGreatDoor
