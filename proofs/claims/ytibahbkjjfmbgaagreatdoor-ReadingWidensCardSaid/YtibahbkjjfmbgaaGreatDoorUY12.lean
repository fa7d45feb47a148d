/-
  What is proved here: what the reference's Build answers, for all zones; equal lines are the same.
-/
import Derived.Test.YtibahbkjjfmbgaaGreatDoorUY11
namespace Go.Proofs.YtibahbkjjfmbgaaGreatDoor
open Go.RowKit Go.Maps
set_option linter.unusedVariables false
theorem wide_size (x : List UInt8) (n : Nat) (h : x.length ≤ n) : (S (wideL x n)).size ≤ n := by
 rw [S_size]; unfold wideL; rw [List.length_append, List.length_replicate]; omega
set_option maxHeartbeats 800000 in
set_option maxRecDepth 20000 in
theorem r_same_eq (ls : List (List UInt8)) (A B : Option Addr) (n c d : Nat) (hn : ls.length = n) (hl : n ≤ 1000000) (w : World) (ha : Strs w A ls) (hb : Strs w B ls) :
 Calls Tryz.prog 24 #[.slice A n c, .slice B n d] w fun e w' => e = .returned (.bool true) ∧ Below w.heap.size w w' := by
 have HA := Lib.hid ha
 have HB := Lib.hid hb
 have HN := Lib.hid hn
 clear ha hb hn
 go_enter Tryz.func24, Tryz.ntmps24
 go_wp2
 go_loopw [5] (fun i wr => ∃ (j : Nat), j ≤ n ∧ i = .int .i64 (j : Int) ∧ Hid (Below w.heap.size w wr)) (fun i _ => n - (intOf i).toNat)
 case atStart => exact ⟨0, by omega, rfl, Lib.hid (Below.refl _ _)⟩
 case round =>
  obtain ⟨j, hj, rfl, HR⟩ := hrel
  by_cases hlt : j < n
  ·
   obtain ⟨a1, a2, rfl, a3, a4⟩ := HA.out.cell (by rw [HN.out]; omega)
   obtain ⟨b1, b2, rfl, b3, b4⟩ := HB.out.cell (by rw [HN.out]; omega)
   obtain ⟨X, hX⟩ : ∃ X, S (ls.getD j []) = X := ⟨_, rfl⟩
   have ca := a4 j (by rw [HN.out]; exact hlt)
   have cb := b4 j (by rw [HN.out]; exact hlt)
   rw [hX] at ca cb
   have la := fun (d : Nat) (os : Array Obj) => cell_regrown ((HR.out.cell (p := ⟨a1, a2 + j, none⟩) a3).trans ca) d os
   have lb := fun (d : Nat) (os : Array Obj) => cell_regrown ((HR.out.cell (p := ⟨b1, b2 + j, none⟩) b3).trans cb) d os
   clear a3 a4 b3 b4 ca cb hX
   go_wp2_with fail
   refine wp_region_quiet_below (by kernel_rfl) (by kernel_rfl) ?_
   repeat (first | go_big_quiet_skip | (go_big_quiet_want; go_big_quiet_op; go_big_quiet_on))
   refine wpQuiet_nil ?_
   intro w3 hw3
   have H3 := Lib.hid (below_on HR.out (below_of_regrown hw3))
   clear hw3 la lb
   go_wp2
   go_roundw
   case rel => exact ⟨j + 1, by omega, by go_num, H3⟩
   case measure => simp [intOf]; omega
  · obtain rfl : j = n := by omega
    go_wp2
    go_ret
    exact ⟨rfl, HR.out⟩
end Go.Proofs.YtibahbkjjfmbgaaGreatDoor
