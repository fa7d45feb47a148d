/-
  What is proved here: the reference's Shape: the format of lines by their lengths.
-/
import Derived.Test.YtibahbkjjfmbgaaGreatDoorUY6
import Derived.Test.YtibahbkjjfmbgaaGreatDoorUY9
import Derived.Test.YtibahbkjjfmbgaaGreatDoorUY10
namespace Go.Proofs.YtibahbkjjfmbgaaGreatDoor
open Go.RowKit Go.Maps
set_option linter.unusedVariables false
set_option maxHeartbeats 1600000 in
theorem r_shape_no (A : Option Addr) (n c : Nat) (h3 : n ≠ 3) (h2 : n ≠ 2) (w : World) :
 Calls Tryz.prog 40 #[.slice A n c] w fun e w' => e = .returned (.int .i64 0) ∧ Below w.heap.size w w' := by
 have e3 : ¬ (n = 3) := h3
 have e2 : ¬ (n = 2) := h2
 have e3i : ¬ ((n : Int) = 3) := by omega
 have e2i : ¬ ((n : Int) = 2) := by omega
 have HO := Lib.hid (Below.refl w.heap.size w)
 clear h3 h2
 go_enter Tryz.func40, Tryz.ntmps40
 go_wp2
 go_ret
 exact ⟨rfl, HO.out⟩
set_option maxHeartbeats 3200000 in
theorem r_shape3 (b o c : Nat) (S0 S1 S2 : ByteArray) (w : World) (c0 : w.cell? ⟨b, o, none⟩ = some (.string S0)) (c1 : w.cell? ⟨b, o + 1, none⟩ = some (.string S1)) (c2 : w.cell? ⟨b, o + 2, none⟩ = some (.string S2))
 (v : Int) (hv : (if S0.size = 30 ∧ S1.size = 30 ∧ S2.size = 30 then 1 else 0) = v) :
 Calls Tryz.prog 40 #[.slice (some ⟨b, o, none⟩) 3 c] w fun e w' => e = .returned (.int .i64 v) ∧ Below w.heap.size w w' := by
 have HC0 := Lib.hid c0
 have HC1 := Lib.hid c1
 have HC2 := Lib.hid c2
 have HV := Lib.hid hv
 have HO := Lib.hid (Below.refl w.heap.size w)
 clear c0 c1 c2 hv
 rcases Nat.decEq S0.size 30 with a0 | a0
 · have HA := Lib.hid (show v = 0 by rw [← HV.out, if_neg (fun h => a0 h.1)])
   have a0i : ¬ ((S0.size : Int) = 30) := by omega
   clear HV
   go_enter Tryz.func40, Tryz.ntmps40
   go_wp2_with (first
    | ((with_reducible refine at_load_ (d := 9) ?_); refine wpList_load_cg (by rfl) 9 _ rfl b o rfl _ HC0.out Tryz.isAgg9 ?_)
    | ((with_reducible refine at_load_ (d := 16) ?_); refine wpList_load_cg (by rfl) 9 _ rfl b (o + 1) rfl _ HC1.out Tryz.isAgg9 ?_)
    | ((with_reducible refine at_load_ (d := 23) ?_); refine wpList_load_cg (by rfl) 9 _ rfl b (o + 2) rfl _ HC2.out Tryz.isAgg9 ?_))
   go_ret
   exact ⟨by rw [HA.out]; rfl, HO.out⟩
 ·
  rcases Nat.decEq S1.size 30 with a1 | a1
  · have HA := Lib.hid (show v = 0 by rw [← HV.out, if_neg (fun h => a1 h.2.1)])
    have a1i : ¬ ((S1.size : Int) = 30) := by omega
    clear HV
    go_enter Tryz.func40, Tryz.ntmps40
    go_wp2_with (first
     | ((with_reducible refine at_load_ (d := 9) ?_); refine wpList_load_cg (by rfl) 9 _ rfl b o rfl _ HC0.out Tryz.isAgg9 ?_)
     | ((with_reducible refine at_load_ (d := 16) ?_); refine wpList_load_cg (by rfl) 9 _ rfl b (o + 1) rfl _ HC1.out Tryz.isAgg9 ?_)
     | ((with_reducible refine at_load_ (d := 23) ?_); refine wpList_load_cg (by rfl) 9 _ rfl b (o + 2) rfl _ HC2.out Tryz.isAgg9 ?_))
    go_ret
    exact ⟨by rw [HA.out]; rfl, HO.out⟩
  · rcases Nat.decEq S2.size 30 with a2 | a2
    · have HA := Lib.hid (show v = 0 by rw [← HV.out, if_neg (fun h => a2 h.2.2)])
      have a2i : ¬ ((S2.size : Int) = 30) := by omega
      clear HV
      go_enter Tryz.func40, Tryz.ntmps40
      go_wp2_with (first
       | ((with_reducible refine at_load_ (d := 9) ?_); refine wpList_load_cg (by rfl) 9 _ rfl b o rfl _ HC0.out Tryz.isAgg9 ?_)
       | ((with_reducible refine at_load_ (d := 16) ?_); refine wpList_load_cg (by rfl) 9 _ rfl b (o + 1) rfl _ HC1.out Tryz.isAgg9 ?_)
       | ((with_reducible refine at_load_ (d := 23) ?_); refine wpList_load_cg (by rfl) 9 _ rfl b (o + 2) rfl _ HC2.out Tryz.isAgg9 ?_))
      go_ret
      exact ⟨by rw [HA.out]; rfl, HO.out⟩
    · have HA := Lib.hid (show v = 1 by rw [← HV.out, if_pos ⟨a0, a1, a2⟩])
      clear HV
      go_enter Tryz.func40, Tryz.ntmps40
      go_wp2_with (first
       | ((with_reducible refine at_load_ (d := 9) ?_); refine wpList_load_cg (by rfl) 9 _ rfl b o rfl _ HC0.out Tryz.isAgg9 ?_)
       | ((with_reducible refine at_load_ (d := 16) ?_); refine wpList_load_cg (by rfl) 9 _ rfl b (o + 1) rfl _ HC1.out Tryz.isAgg9 ?_)
       | ((with_reducible refine at_load_ (d := 23) ?_); refine wpList_load_cg (by rfl) 9 _ rfl b (o + 2) rfl _ HC2.out Tryz.isAgg9 ?_))
      go_ret
      exact ⟨by rw [HA.out]; rfl, HO.out⟩
set_option maxHeartbeats 3200000 in
theorem r_shape2 (b o c : Nat) (S0 S1 : ByteArray) (w : World) (c0 : w.cell? ⟨b, o, none⟩ = some (.string S0)) (c1 : w.cell? ⟨b, o + 1, none⟩ = some (.string S1))
 (v : Int) (hv : (if S0.size = 36 ∧ S1.size = 36 then 2 else if S0.size = 44 ∧ S1.size = 44 then 3 else 0) = v) :
 Calls Tryz.prog 40 #[.slice (some ⟨b, o, none⟩) 2 c] w fun e w' => e = .returned (.int .i64 v) ∧ Below w.heap.size w w' := by
 have HC0 := Lib.hid c0
 have HC1 := Lib.hid c1
 have HV := Lib.hid hv
 have HO := Lib.hid (Below.refl w.heap.size w)
 clear c0 c1 hv
 rcases Nat.decEq S0.size 36 with a0 | a0
 ·
  have a0i : ¬ ((S0.size : Int) = 36) := by omega
  rcases Nat.decEq S0.size 44 with d0 | d0
  · have HA := Lib.hid (show v = 0 by rw [← HV.out, if_neg (fun h => a0 h.1), if_neg (fun h => d0 h.1)])
    have d0i : ¬ ((S0.size : Int) = 44) := by omega
    clear HV
    go_enter Tryz.func40, Tryz.ntmps40
    go_wp2_with (first
     | ((with_reducible refine at_load_ (d := 33) ?_); refine wpList_load_cg (by rfl) 9 _ rfl b o rfl _ HC0.out Tryz.isAgg9 ?_)
     | ((with_reducible refine at_load_ (d := 40) ?_); refine wpList_load_cg (by rfl) 9 _ rfl b (o + 1) rfl _ HC1.out Tryz.isAgg9 ?_)
     | ((with_reducible refine at_load_ (d := 50) ?_); refine wpList_load_cg (by rfl) 9 _ rfl b o rfl _ HC0.out Tryz.isAgg9 ?_)
     | ((with_reducible refine at_load_ (d := 57) ?_); refine wpList_load_cg (by rfl) 9 _ rfl b (o + 1) rfl _ HC1.out Tryz.isAgg9 ?_))
    go_ret
    exact ⟨by rw [HA.out]; rfl, HO.out⟩
  · rcases Nat.decEq S1.size 44 with d1 | d1
    · have HA := Lib.hid (show v = 0 by rw [← HV.out, if_neg (fun h => a0 h.1), if_neg (fun h => d1 h.2)])
      have d1i : ¬ ((S1.size : Int) = 44) := by omega
      clear a0 a0i
      clear HV
      go_enter Tryz.func40, Tryz.ntmps40
      go_wp2_with (first
       | ((with_reducible refine at_load_ (d := 33) ?_); refine wpList_load_cg (by rfl) 9 _ rfl b o rfl _ HC0.out Tryz.isAgg9 ?_)
       | ((with_reducible refine at_load_ (d := 40) ?_); refine wpList_load_cg (by rfl) 9 _ rfl b (o + 1) rfl _ HC1.out Tryz.isAgg9 ?_)
       | ((with_reducible refine at_load_ (d := 50) ?_); refine wpList_load_cg (by rfl) 9 _ rfl b o rfl _ HC0.out Tryz.isAgg9 ?_)
       | ((with_reducible refine at_load_ (d := 57) ?_); refine wpList_load_cg (by rfl) 9 _ rfl b (o + 1) rfl _ HC1.out Tryz.isAgg9 ?_))
      go_ret
      exact ⟨by rw [HA.out]; rfl, HO.out⟩
    · have HA := Lib.hid (show v = 3 by rw [← HV.out, if_neg (fun h => a0 h.1), if_pos ⟨d0, d1⟩])
      clear a0 a0i
      clear HV
      go_enter Tryz.func40, Tryz.ntmps40
      go_wp2_with (first
       | ((with_reducible refine at_load_ (d := 33) ?_); refine wpList_load_cg (by rfl) 9 _ rfl b o rfl _ HC0.out Tryz.isAgg9 ?_)
       | ((with_reducible refine at_load_ (d := 40) ?_); refine wpList_load_cg (by rfl) 9 _ rfl b (o + 1) rfl _ HC1.out Tryz.isAgg9 ?_)
       | ((with_reducible refine at_load_ (d := 50) ?_); refine wpList_load_cg (by rfl) 9 _ rfl b o rfl _ HC0.out Tryz.isAgg9 ?_)
       | ((with_reducible refine at_load_ (d := 57) ?_); refine wpList_load_cg (by rfl) 9 _ rfl b (o + 1) rfl _ HC1.out Tryz.isAgg9 ?_))
      go_ret
      exact ⟨by rw [HA.out]; rfl, HO.out⟩
 ·
  rcases Nat.decEq S1.size 36 with a1 | a1
  · have HA := Lib.hid (show v = 0 by rw [← HV.out, if_neg (fun h => a1 h.2), if_neg (fun h => by have := h.1; omega)])
    have a1i : ¬ ((S1.size : Int) = 36) := by omega
    clear HV
    go_enter Tryz.func40, Tryz.ntmps40
    go_wp2_with (first
     | ((with_reducible refine at_load_ (d := 33) ?_); refine wpList_load_cg (by rfl) 9 _ rfl b o rfl _ HC0.out Tryz.isAgg9 ?_)
     | ((with_reducible refine at_load_ (d := 40) ?_); refine wpList_load_cg (by rfl) 9 _ rfl b (o + 1) rfl _ HC1.out Tryz.isAgg9 ?_)
     | ((with_reducible refine at_load_ (d := 50) ?_); refine wpList_load_cg (by rfl) 9 _ rfl b o rfl _ HC0.out Tryz.isAgg9 ?_)
     | ((with_reducible refine at_load_ (d := 57) ?_); refine wpList_load_cg (by rfl) 9 _ rfl b (o + 1) rfl _ HC1.out Tryz.isAgg9 ?_))
    go_ret
    exact ⟨by rw [HA.out]; rfl, HO.out⟩
  · have HA := Lib.hid (show v = 2 by rw [← HV.out, if_pos ⟨a0, a1⟩])
    clear HV
    go_enter Tryz.func40, Tryz.ntmps40
    go_wp2_with (first
     | ((with_reducible refine at_load_ (d := 33) ?_); refine wpList_load_cg (by rfl) 9 _ rfl b o rfl _ HC0.out Tryz.isAgg9 ?_)
     | ((with_reducible refine at_load_ (d := 40) ?_); refine wpList_load_cg (by rfl) 9 _ rfl b (o + 1) rfl _ HC1.out Tryz.isAgg9 ?_)
     | ((with_reducible refine at_load_ (d := 50) ?_); refine wpList_load_cg (by rfl) 9 _ rfl b o rfl _ HC0.out Tryz.isAgg9 ?_)
     | ((with_reducible refine at_load_ (d := 57) ?_); refine wpList_load_cg (by rfl) 9 _ rfl b (o + 1) rfl _ HC1.out Tryz.isAgg9 ?_))
    go_ret
    exact ⟨by rw [HA.out]; rfl, HO.out⟩
theorem r_shape (ls : List (List UInt8)) (A : Option Addr) (n c : Nat) (hn : ls.length = n) (v : Int) (hv : shapeL ls = v) (w : World) (hs : Strs w A ls) :
 Calls Tryz.prog 40 #[.slice A n c] w fun e w' => e = .returned (.int .i64 v) ∧ Below w.heap.size w w' := by
 subst hn
 by_cases h3 : ls.length = 3
 · obtain ⟨b, o, rfl, _, hc⟩ := hs.cell (by omega)
   rw [h3] at hc ⊢
   refine r_shape3 b o c _ _ _ w (hc 0 (by decide)) (hc 1 (by decide)) (hc 2 (by decide)) v ?_
   rw [← hv]; unfold shapeL; simp only [S_size, h3]; simp
 · by_cases h2 : ls.length = 2
   · obtain ⟨b, o, rfl, _, hc⟩ := hs.cell (by omega)
     rw [h2] at hc ⊢
     refine r_shape2 b o c _ _ w (hc 0 (by decide)) (hc 1 (by decide)) v ?_
     rw [← hv]; unfold shapeL; simp only [S_size, h2]; simp
   · have e : v = 0 := by rw [← hv]; unfold shapeL; rw [if_neg (fun h => h3 h.1), if_neg (fun h => h2 h.1), if_neg (fun h => h2 h.1)]
     subst e
     exact r_shape_no A _ c h3 h2 w
end Go.Proofs.YtibahbkjjfmbgaaGreatDoor
