/-
  What is proved here: the reference's Shape: the format of lines by their lengths.
-/
import Derived.Test.YtibahbkjjfmbgaaGreatDoorPY6
import Derived.Test.YtibahbkjjfmbgaaGreatDoorPY9
import Derived.Test.YtibahbkjjfmbgaaGreatDoorPY10
namespace Go.Proofs.YtibahbkjjfmbgaaGreatDoor
open Go.RowKit Go.Maps
set_option linter.unusedVariables false
set_option maxHeartbeats 1600000 in
theorem r_shape_no (A : Option Addr) (n c : Nat) (h3 : n ≠ 3) (h2 : n ≠ 2) (w : World) :
 Calls Tryz.prog 40 #[.slice A n c] w fun e w' => e = .returned (.int .i64 0) ∧ Below w.heap.size w w' := by
 have e3 : ¬ (n = 3) := h3
 have e2 : ¬ (n = 2) := h2
 have e3i : ¬ ((n : Int) = 3) := by omega
 have e2i : ¬ ((n : Int) = 2) := by omega
 have HO := Lib.hid (Below.refl w.heap.size w)
 clear h3 h2
 go_enter Tryz.func40, Tryz.ntmps40
 go_wp2
 go_ret
 exact ⟨rfl, HO.out⟩
set_option maxHeartbeats 3200000 in
theorem r_shape3 (b o c : Nat) (S0 S1 S2 : ByteArray) (w : World) (c0 : w.cell? ⟨b, o, none⟩ = some (.string S0)) (c1 : w.cell? ⟨b, o + 1, none⟩ = some (.string S1)) (c2 : w.cell? ⟨b, o + 2, none⟩ = some (.string S2))
 (v : Int) (hv : (if S0.size = 30 ∧ S1.size = 30 ∧ S2.size = 30 then 1 else 0) = v) :
 Calls Tryz.prog 40 #[.slice (some ⟨b, o, none⟩) 3 c] w fun e w' => e = .returned (.int .i64 v) ∧ Below w.heap.size w w' := by
 have HC0 := Lib.hid c0
 have HC1 := Lib.hid c1
 have HC2 := Lib.hid c2
 have HV := Lib.hid hv
 have HO := Lib.hid (Below.refl w.heap.size w)
 clear c0 c1 c2 hv
 rcases Nat.decEq S0.size 30 with a0 | a0
 · have HA := Lib.hid (show v = 0 by rw [← HV.out, if_neg (fun h => a0 h.1)])
   have a0i : ¬ ((S0.size : Int) = 30) := by omega
   clear HV
   go_enter Tryz.func40, Tryz.ntmps40
   go_wp2_with (first
    | ((with_reducible refine at_load_ (d := 9) ?_); refine wpList_load_cg (by rfl) 9 _ rfl b o rfl _ HC0.out Tryz.isAgg9 ?_)
    | ((with_reducible refine at_load_ (d := 16) ?_); refine wpList_load_cg (by rfl) 9 _ rfl b (o + 1) rfl _ HC1.out Tryz.isAgg9 ?_)
    | ((with_reducible refine at_load_ (d := 23) ?_); refine wpList_load_cg (by rfl) 9 _ rfl b (o + 2) rfl _ HC2.out Tryz.isAgg9 ?_))
   go_ret
   exact ⟨by rw [HA.out]; rfl, HO.out⟩
 ·
  rcases Nat.decEq S1.size 30 with a1 | a1
  · have HA := Lib.hid (show v = 0 by rw [← HV.out, if_neg (fun h => a1 h.2.1)])
    have a1i : ¬ ((S1.size : Int) = 30) := by omega
    clear HV
    go_enter Tryz.func40, Tryz.ntmps40
    go_wp2_with (first
     | ((with_reducible refine at_load_ (d := 9) ?_); refine wpList_load_cg (by rfl) 9 _ rfl b o rfl _ HC0.out Tryz.isAgg9 ?_)
     | ((with_reducible refine at_load_ (d := 16) ?_); refine wpList_load_cg (by rfl) 9 _ rfl b (o + 1) rfl _ HC1.out Tryz.isAgg9 ?_)
     | ((with_reducible refine at_load_ (d := 23) ?_); refine wpList_load_cg (by rfl) 9 _ rfl b (o + 2) rfl _ HC2.out Tryz.isAgg9 ?_))
    go_ret
    exact ⟨by rw [HA.out]; rfl, HO.out⟩
  · rcases Nat.decEq S2.size 30 with a2 | a2
    · have HA := Lib.hid (show v = 0 by rw [← HV.out, if_neg (fun h => a2 h.2.2)])
      have a2i : ¬ ((S2.size : Int) = 30) := by omega
      clear HV
      go_enter Tryz.func40, Tryz.ntmps40
      go_wp2_with (first
       | ((with_reducible refine at_load_ (d := 9) ?_); refine wpList_load_cg (by rfl) 9 _ rfl b o rfl _ HC0.out Tryz.isAgg9 ?_)
       | ((with_reducible refine at_load_ (d := 16) ?_); refine wpList_load_cg (by rfl) 9 _ rfl b (o + 1) rfl _ HC1.out Tryz.isAgg9 ?_)
       | ((with_reducible refine at_load_ (d := 23) ?_); refine wpList_load_cg (by rfl) 9 _ rfl b (o + 2) rfl _ HC2.out Tryz.isAgg9 ?_))
      go_ret
      exact ⟨by rw [HA.out]; rfl, HO.out⟩
    · have HA := Lib.hid (show v = 1 by rw [← HV.out, if_pos ⟨a0, a1, a2⟩])
      clear HV
      go_enter Tryz.func40, Tryz.ntmps40
      go_wp2_with (first
       | ((with_reducible refine at_load_ (d := 9) ?_); refine wpList_load_cg (by rfl) 9 _ rfl b o rfl _ HC0.out Tryz.isAgg9 ?_)
       | ((with_reducible refine at_load_ (d := 16) ?_); refine wpList_load_cg (by rfl) 9 _ rfl b (o + 1) rfl _ HC1.out Tryz.isAgg9 ?_)
       | ((with_reducible refine at_load_ (d := 23) ?_); refine wpList_load_cg (by rfl) 9 _ rfl b (o + 2) rfl _ HC2.out Tryz.isAgg9 ?_))
      go_ret
      exact ⟨by rw [HA.out]; rfl, HO.out⟩
set_option maxHeartbeats 3200000 in
theorem r_shape2 (b o c : Nat) (S0 S1 : ByteArray) (w : World) (c0 : w.cell? ⟨b, o, none⟩ = some (.string S0)) (c1 : w.cell? ⟨b, o + 1, none⟩ = some (.string S1))
 (v : Int) (hv : (if S0.size = 36 ∧ S1.size = 36 then 2 else if S0.size = 44 ∧ S1.size = 44 then 3 else 0) = v) :
 Calls Tryz.prog 40 #[.slice (some ⟨b, o, none⟩) 2 c] w fun e w' => e = .returned (.int .i64 v) ∧ Below w.heap.size w w' := by
 have HC0 := Lib.hid c0
 have HC1 := Lib.hid c1
 have HV := Lib.hid hv
 have HO := Lib.hid (Below.refl w.heap.size w)
 clear c0 c1 hv
 rcases Nat.decEq S0.size 36 with a0 | a0
 ·
  have a0i : ¬ ((S0.size : Int) = 36) := by omega
  rcases Nat.decEq S0.size 44 with d0 | d0
  · have HA := Lib.hid (show v = 0 by rw [← HV.out, if_neg (fun h => a0 h.1), if_neg (fun h => d0 h.1)])
    have d0i : ¬ ((S0.size : Int) = 44) := by omega
    clear HV
    go_enter Tryz.func40, Tryz.ntmps40
    go_wp2_with (first
     | ((with_reducible refine at_load_ (d := 33) ?_); refine wpList_load_cg (by rfl) 9 _ rfl b o rfl _ HC0.out Tryz.isAgg9 ?_)
     | ((with_reducible refine at_load_ (d := 40) ?_); refine wpList_load_cg (by rfl) 9 _ rfl b (o + 1) rfl _ HC1.out Tryz.isAgg9 ?_)
     | ((with_reducible refine at_load_ (d := 50) ?_); refine wpList_load_cg (by rfl) 9 _ rfl b o rfl _ HC0.out Tryz.isAgg9 ?_)
     | ((with_reducible refine at_load_ (d := 57) ?_); refine wpList_load_cg (by rfl) 9 _ rfl b (o + 1) rfl _ HC1.out Tryz.isAgg9 ?_))
    go_ret
    exact ⟨by rw [HA.out]; rfl, HO.out⟩
  · rcases Nat.decEq S1.size 44 with d1 | d1
    · have HA := Lib.hid (show v = 0 by rw [← HV.out, if_neg (fun h => a0 h.1), if_neg (fun h => d1 h.2)])
      have d1i : ¬ ((S1.size : Int) = 44) := by omega
      clear a0 a0i
      clear HV
      go_enter Tryz.func40, Tryz.ntmps40
      go_wp2_with (first
       | ((with_reducible refine at_load_ (d := 33) ?_); refine wpList_load_cg (by rfl) 9 _ rfl b o rfl _ HC0.out Tryz.isAgg9 ?_)
       | ((with_reducible refine at_load_ (d := 40) ?_); refine wpList_load_cg (by rfl) 9 _ rfl b (o + 1) rfl _ HC1.out Tryz.isAgg9 ?_)
       | ((with_reducible refine at_load_ (d := 50) ?_); refine wpList_load_cg (by rfl) 9 _ rfl b o rfl _ HC0.out Tryz.isAgg9 ?_)
       | ((with_reducible refine at_load_ (d := 57) ?_); refine wpList_load_cg (by rfl) 9 _ rfl b (o + 1) rfl _ HC1.out Tryz.isAgg9 ?_))
      go_ret
      exact ⟨by rw [HA.out]; rfl, HO.out⟩
    · have HA := Lib.hid (show v = 3 by rw [← HV.out, if_neg (fun h => a0 h.1), if_pos ⟨d0, d1⟩])
      clear a0 a0i
      clear HV
      go_enter Tryz.func40, Tryz.ntmps40
      go_wp2_with (first
       | ((with_reducible refine at_load_ (d := 33) ?_); refine wpList_load_cg (by rfl) 9 _ rfl b o rfl _ HC0.out Tryz.isAgg9 ?_)
       | ((with_reducible refine at_load_ (d := 40) ?_); refine wpList_load_cg (by rfl) 9 _ rfl b (o + 1) rfl _ HC1.out Tryz.isAgg9 ?_)
       | ((with_reducible refine at_load_ (d := 50) ?_); refine wpList_load_cg (by rfl) 9 _ rfl b o rfl _ HC0.out Tryz.isAgg9 ?_)
       | ((with_reducible refine at_load_ (d := 57) ?_); refine wpList_load_cg (by rfl) 9 _ rfl b (o + 1) rfl _ HC1.out Tryz.isAgg9 ?_))
      go_ret
      exact ⟨by rw [HA.out]; rfl, HO.out⟩
 ·
  rcases Nat.decEq S1.size 36 with a1 | a1
  · have HA := Lib.hid (show v = 0 by rw [← HV.out, if_neg (fun h => a1 h.2), if_neg (fun h => by have := h.1; omega)])
    have a1i : ¬ ((S1.size : Int) = 36) := by omega
    clear HV
    go_enter Tryz.func40, Tryz.ntmps40
    go_wp2_with (first
     | ((with_reducible refine at_load_ (d := 33) ?_); refine wpList_load_cg (by rfl) 9 _ rfl b o rfl _ HC0.out Tryz.isAgg9 ?_)
     | ((with_reducible refine at_load_ (d := 40) ?_); refine wpList_load_cg (by rfl) 9 _ rfl b (o + 1) rfl _ HC1.out Tryz.isAgg9 ?_)
     | ((with_reducible refine at_load_ (d := 50) ?_); refine wpList_load_cg (by rfl) 9 _ rfl b o rfl _ HC0.out Tryz.isAgg9 ?_)
     | ((with_reducible refine at_load_ (d := 57) ?_); refine wpList_load_cg (by rfl) 9 _ rfl b (o + 1) rfl _ HC1.out Tryz.isAgg9 ?_))
    go_ret
    exact ⟨by rw [HA.out]; rfl, HO.out⟩
  · have HA := Lib.hid (show v = 2 by rw [← HV.out, if_pos ⟨a0, a1⟩])
    clear HV
    go_enter Tryz.func40, Tryz.ntmps40
    go_wp2_with (first
     | ((with_reducible refine at_load_ (d := 33) ?_); refine wpList_load_cg (by rfl) 9 _ rfl b o rfl _ HC0.out Tryz.isAgg9 ?_)
     | ((with_reducible refine at_load_ (d := 40) ?_); refine wpList_load_cg (by rfl) 9 _ rfl b (o + 1) rfl _ HC1.out Tryz.isAgg9 ?_)
     | ((with_reducible refine at_load_ (d := 50) ?_); refine wpList_load_cg (by rfl) 9 _ rfl b o rfl _ HC0.out Tryz.isAgg9 ?_)
     | ((with_reducible refine at_load_ (d := 57) ?_); refine wpList_load_cg (by rfl) 9 _ rfl b (o + 1) rfl _ HC1.out Tryz.isAgg9 ?_))
    go_ret
    exact ⟨by rw [HA.out]; rfl, HO.out⟩
theorem r_shape (ls : List (List UInt8)) (A : Option Addr) (n c : Nat) (hn : ls.length = n) (v : Int) (hv : shapeL ls = v) (w : World) (hs : Strs w A ls) :
 Calls Tryz.prog 40 #[.slice A n c] w fun e w' => e = .returned (.int .i64 v) ∧ Below w.heap.size w w' := by
 subst hn
 by_cases h3 : ls.length = 3
 · obtain ⟨b, o, rfl, _, hc⟩ := hs.cell (by omega)
   rw [h3] at hc ⊢
   refine r_shape3 b o c _ _ _ w (hc 0 (by decide)) (hc 1 (by decide)) (hc 2 (by decide)) v ?_
   rw [← hv]; unfold shapeL; simp only [S_size, h3]; simp
 · by_cases h2 : ls.length = 2
   · obtain ⟨b, o, rfl, _, hc⟩ := hs.cell (by omega)
     rw [h2] at hc ⊢
     refine r_shape2 b o c _ _ w (hc 0 (by decide)) (hc 1 (by decide)) v ?_
     rw [← hv]; unfold shapeL; simp only [S_size, h2]; simp
   · have e : v = 0 := by rw [← hv]; unfold shapeL; rw [if_neg (fun h => h3 h.1), if_neg (fun h => h2 h.1), if_neg (fun h => h2 h.1)]
     subst e
     exact r_shape_no A _ c h3 h2 w
set_option maxHeartbeats 3200000 in
set_option maxRecDepth 20000 in
theorem r_parse_no (ls : List (List UInt8)) (A : Option Addr) (n c : Nat) (hn : ls.length = n) (hsh : shapeL ls = 0) (w : World) (hs : Strs w A ls) :
 Calls Tryz.prog 25 #[.slice A n c] w fun e w' => e = .returned (.tuple #[.agg zon0.toArray, .int .i64 2]) ∧ Below w.heap.size w w' := by
 have HSH : Hid (∀ w, Strs w A ls → Calls Tryz.prog 40 #[.slice A n c] w fun e w' => e = .returned (.int .i64 0) ∧ Below w.heap.size w w') := Lib.hid (fun w hs => r_shape ls A n c hn 0 hsh w hs)
 have HS := Lib.hid hs
 have HO := Lib.hid (Own.start w)
 clear hn hsh hs
 go_enter Tryz.func25, Tryz.ntmps25
 go_wp2_with (first
  | ((with_reducible refine at_alloc_ (d := 2) ?_); refine wpList_alloc_v (op := ⟨some 2, _, _, _, _, _⟩) rfl 44 rfl zon0 info_z ?_; intro g2 v2a hf hr; replace HO := Lib.hid (HO.out.new hf hr); clear hf hr)
  | (go_at_call 40; ((with_reducible refine (HSH.out _ (HS.out.on HO.out.bl)).mono ?_); rintro e w5 ⟨rfl, hb⟩); replace HO := Lib.hid (HO.out.on hb); clear hb)
  | ((with_reducible refine at_store_ (i := 2) ?_); refine wpList_store_v rfl 44 (.tmp 2) (.tmp 26) rfl g2 zon0 zon0 rfl rfl (HO.out.row (i := 0) rfl) rfl (zV_one _) size_z ?_; intro v2s hw hr; replace HO := Lib.hid (HO.out.set (i := 0) rfl hw hr); clear hw hr))
 exact bodyPost_ret (results_v1 rfl _ _ g2 zon0 _ rfl (HO.out.row (i := 0) rfl) Tryz.underlying44 rfl size_z) rfl ⟨rfl, HO.out.bl⟩
theorem allV_of {ls : List (List UInt8)} (h : ∀ i, i < ls.length → validL (ls.getD i []) = true) : allV ls = true := by
 unfold allV
 rw [List.all_eq_true]
 intro x hx
 obtain ⟨i, hi, rfl⟩ := List.getElem_of_mem hx
 have := h i hi
 rw [List.getD_eq_getElem?_getD, List.getElem?_eq_getElem hi] at this
 exact this
set_option maxHeartbeats 3200000 in
set_option maxRecDepth 20000 in
theorem r_parse_bad (ls : List (List UInt8)) (A : Option Addr) (n c : Nat) (hn : ls.length = n) (f : Int) (hf : 1 ≤ f ∧ f ≤ 3) (hsh : shapeL ls = f) (hav : allV ls = false) (w : World) (hs : Strs w A ls) :
 Calls Tryz.prog 25 #[.slice A n c] w fun e w' => e = .returned (.tuple #[.agg zon0.toArray, .int .i64 12]) ∧ Below w.heap.size w w' := by
 have HSH : Hid (∀ w, Strs w A ls → Calls Tryz.prog 40 #[.slice A n c] w fun e w' => e = .returned (.int .i64 f) ∧ Below w.heap.size w w') := Lib.hid (fun w hs => r_shape ls A n c hn f hsh w hs)
 have hli : LinesOf f ls := (shape_of hf).2 hsh
 have hle := lines_le hf hli
 have HVD : Hid (∀ j, j < n → ∀ b, validL (ls.getD j []) = b → ∀ w, Calls Tryz.prog 41 #[.string (S (ls.getD j []))] w fun e w' => e = .returned (.bool b) ∧ w = w') := Lib.hid (fun j hj b hb w => r_validB _ b hb w (by
  rw [S_size]
  have := hle (ls.getD j []) (by rw [List.getD_eq_getElem?_getD, List.getElem?_eq_getElem (by omega)]; exact List.getElem_mem _)
  omega))
 have hn3 : n ≤ 3 := by rw [← hn, hli.1]; exact cnt3 _
 have HS := Lib.hid hs
 have HN := Lib.hid hn
 have HAV := Lib.hid hav
 have HO := Lib.hid (Own.start w)
 have ef : (f == 0) = false := by simp; omega
 clear hn hsh hs hav hli hle hf
 go_enter Tryz.func25, Tryz.ntmps25
 go_wp2_with (first
  | ((with_reducible refine at_alloc_ (d := 2) ?_); refine wpList_alloc_v (op := ⟨some 2, _, _, _, _, _⟩) rfl 44 rfl zon0 info_z ?_; intro g2 v2a hf hr; replace HO := Lib.hid (HO.out.new hf hr); clear hf hr)
  | (go_at_call 40; ((with_reducible refine (HSH.out _ (HS.out.on HO.out.bl)).mono ?_); rintro e w5 ⟨rfl, hb⟩); replace HO := Lib.hid (HO.out.on hb); clear hb))
 go_loopw [5] (fun i wr => ∃ (j : Nat), j ≤ n ∧ i = .int .i64 (j : Int) ∧ Hid (Own w wr [(g2, zon0)] ∧ ∀ i, i < j → validL (ls.getD i []) = true)) (fun i _ => n - (intOf i).toNat)
 case atStart => exact ⟨0, by omega, rfl, Lib.hid ⟨HO.out, fun i hi => by omega⟩⟩
 case round =>
  clear HO
  obtain ⟨j, hj, rfl, HR⟩ := hrel
  have HO := Lib.hid HR.out.1
  by_cases hlt : j < n
  ·
   obtain ⟨ab, ao, rfl, hab, hcell⟩ := HS.out.cell (by rw [HN.out]; omega)
   have hcl := (HO.out.bl.cell (p := ⟨ab, ao + j, none⟩) hab).trans (hcell j (by rw [HN.out]; exact hlt))
   rcases hp : validL (ls.getD j []) with _ | _
   · have HV := Lib.hid (HVD.out j hlt false hp)
     obtain ⟨X, hX⟩ : ∃ X, S (ls.getD j []) = X := ⟨_, rfl⟩
     rw [hX] at hcl HV
     clear hp hX hcell hab HVD
     go_wp2_with (first
      | (go_at_call 41; ((with_reducible refine (HV.out _).mono ?_); rintro e w9 ⟨rfl, rfl⟩))
      | ((with_reducible refine at_store_ (i := 2) ?_); refine wpList_store_v rfl 44 (.tmp 2) (.tmp 39) rfl g2 zon0 zon0 rfl rfl (HO.out.row (i := 0) rfl) rfl (zV_one _) size_z ?_; intro v2s hw hr; replace HO := Lib.hid (HO.out.set (i := 0) rfl hw hr); clear hw hr))
     exact bodyPost_ret (results_v1 rfl _ _ g2 zon0 _ rfl (HO.out.row (i := 0) rfl) Tryz.underlying44 rfl size_z) rfl ⟨rfl, HO.out.bl⟩
   · have HV := Lib.hid (HVD.out j hlt true hp)
     have HP := Lib.hid hp
     obtain ⟨X, hX⟩ : ∃ X, S (ls.getD j []) = X := ⟨_, rfl⟩
     rw [hX] at hcl HV
     clear hp hX hcell hab HVD
     go_wp2_with (go_at_call 41; ((with_reducible refine (HV.out _).mono ?_); rintro e w9 ⟨rfl, rfl⟩))
     go_roundw
     case rel => exact ⟨j + 1, by omega, by go_num, Lib.hid ⟨HO.out, fun i hi => by
      by_cases e : i = j
      · rw [e]; exact HP.out
      · exact HR.out.2 i (by omega)⟩⟩
     case measure => simp [intOf]; omega
  · exact absurd (allV_of (ls := ls) (fun i hi => HR.out.2 i (by have := HN.out; omega))) (by rw [HAV.out]; decide)
end Go.Proofs.YtibahbkjjfmbgaaGreatDoor
