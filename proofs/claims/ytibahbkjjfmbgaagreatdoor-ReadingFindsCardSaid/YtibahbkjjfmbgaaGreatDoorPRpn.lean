/-
  What is proved here: the reference's Parse where the lines have a known shape and no character that no field may hold.
-/
import Derived.Test.YtibahbkjjfmbgaaGreatDoorPY16
namespace Go.Proofs.YtibahbkjjfmbgaaGreatDoor
open Go.RowKit Go.Maps Go.Deep
set_option linter.unusedVariables false
set_option maxHeartbeats 25600000 in
set_option maxRecDepth 40000 in
theorem r_parse_ok (f : Int) (hf : 1 ≤ f ∧ f ≤ 3) (ls : List (List UInt8)) (A : Option Addr) (n c : Nat) (hn : ls.length = n) (hsh : shapeL ls = f) (hav : allV ls = true) (w : World) (hs : Strs w A ls) :
 Calls Tryz.prog 25 #[.slice A n c] w fun e w' => e = .returned (.tuple #[.agg (zV (parZ ls)).toArray, .int .i64 (parE ls)]) ∧ Below w.heap.size w w' := by
 have HSH : Hid (∀ w, Strs w A ls → Calls Tryz.prog 40 #[.slice A n c] w fun e w' => e = .returned (.int .i64 f) ∧ Below w.heap.size w w') := Lib.hid (fun w hs => r_shape ls A n c hn f hsh w hs)
 have hli : LinesOf f ls := (shape_of hf).2 hsh
 have hnc : n = cntN f := hn.symm.trans hli.1
 have hn2 : 2 ≤ n ∧ n ≤ 3 := by rw [hnc]; unfold cntN; repeat (first | omega | split)
 have hwd : 30 ≤ widN f ∧ widN f ≤ 44 := by unfold widN; repeat (first | omega | split)
 have hlen : ∀ j, j < n → (S (ls.getD j [])).size = widN f := fun j hj => by rw [S_size]; exact hli.2 j (by omega)
 have HVD : Hid (∀ j, j < n → ∀ w, Calls Tryz.prog 41 #[.string (S (ls.getD j []))] w fun e w' => e = .returned (.bool true) ∧ w = w') := Lib.hid (fun j hj w => r_validB _ true (by
  unfold allV at hav
  rw [List.all_eq_true] at hav
  exact hav _ (by rw [List.getD_eq_getElem?_getD, List.getElem?_eq_getElem (by omega)]; exact List.getElem_mem _)) w (by rw [hlen j hj]; omega))
 have HN := Lib.hid hn
 obtain ⟨ab, ao, rfl, hab, hcell⟩ := hs.cell (by omega)
 have HAB := Lib.hid hab
 have HCL := Lib.hid (fun j (hj : j < n) => hcell j (by omega))
 have HS := Lib.hid hs
 have HO := Lib.hid (Own.start w)
 have ef : (f == 0) = false := by simp; omega
 obtain ⟨X0, hX0⟩ : ∃ X, S (ls.getD 0 []) = X := ⟨_, rfl⟩
 obtain ⟨X1, hX1⟩ : ∃ X, S (ls.getD 1 []) = X := ⟨_, rfl⟩
 have z0 : 30 ≤ X0.size ∧ X0.size ≤ 44 := by rw [← hX0, hlen 0 (by omega)]; exact hwd
 have z1 : 30 ≤ X1.size ∧ X1.size ≤ 44 := by rw [← hX1, hlen 1 (by omega)]; exact hwd
 have HC0 : Hid (w.cell? ⟨ab, ao, none⟩ = some (.string X0)) := Lib.hid (by rw [← hX0]; exact HCL.out 0 (by omega))
 have HC1 : Hid (w.cell? ⟨ab, ao + 1, none⟩ = some (.string X1)) := Lib.hid (by rw [← hX1]; exact HCL.out 1 (by omega))
 have HXX := Lib.hid (And.intro hX0 hX1)
 have HZW : Hid (X0.size = widN f ∧ X1.size = widN f) := Lib.hid ⟨by rw [← hX0]; exact hlen 0 (by omega), by rw [← hX1]; exact hlen 1 (by omega)⟩
 obtain ⟨KD, hKD⟩ : ∃ Y, S (trimT ((ls.getD 0 []).take 2)) = Y := ⟨_, rfl⟩
 have HTKD : Hid (∀ w, Calls Tryz.prog 52 #[.string (X0.extract 0 2)] w fun e w' => e = .returned (.string KD) ∧ Below w.heap.size w w') := Lib.hid (fun w => by rw [← hKD]; exact trm_b _ _ (by rw [← hX0, S_extract]; rfl) (by rw [ByteArray.size_extract]; omega) w)
 obtain ⟨ST, hST⟩ : ∃ Y, S (trimT (((ls.getD 0 []).drop 2).take 3)) = Y := ⟨_, rfl⟩
 have HTST : Hid (∀ w, Calls Tryz.prog 52 #[.string (X0.extract 2 5)] w fun e w' => e = .returned (.string ST) ∧ Below w.heap.size w w') := Lib.hid (fun w => by rw [← hST]; exact trm_b _ _ (by rw [← hX0, S_extract]) (by rw [ByteArray.size_extract]; omega) w)
 have HP := Lib.hid (show _ ∧ _ ∧ _ from ⟨hsh, hav, hli⟩)
 have HKS := Lib.hid (And.intro hKD hST)
 have HNC := Lib.hid hnc
 clear hn hsh hs hav hli hcell hab hlen hX0 hX1 hnc hwd hKD hST
 go_enter Tryz.func25, Tryz.ntmps25
 go_wp2_with (first
  | ((with_reducible refine at_alloc_ (d := 2) ?_); refine wpList_alloc_v (op := ⟨some 2, _, _, _, _, _⟩) rfl 44 rfl zon0 info_z ?_; intro g2 v2a hf hr; replace HO := Lib.hid (HO.out.new hf hr); clear hf hr)
  | (go_at_call 40; ((with_reducible refine (HSH.out _ (HS.out.on HO.out.bl)).mono ?_); rintro e w5 ⟨rfl, hb⟩); replace HO := Lib.hid (HO.out.on hb); clear hb))
 go_loopw [5] (fun i wr => ∃ (j : Nat), j ≤ n ∧ i = .int .i64 (j : Int) ∧ Hid (Own w wr [(g2, zon0)])) (fun i _ => n - (intOf i).toNat)
 case atStart => exact ⟨0, by omega, rfl, Lib.hid HO.out⟩
 case round =>
  clear HO
  obtain ⟨j, hj, rfl, HR⟩ := hrel
  have HO := Lib.hid HR.out
  clear HR
  by_cases hlt : j < n
  · have hcl := (HO.out.bl.cell (p := ⟨ab, ao + j, none⟩) HAB.out).trans (HCL.out j hlt)
    have HV := Lib.hid (HVD.out j hlt)
    obtain ⟨X, hX⟩ : ∃ X, S (ls.getD j []) = X := ⟨_, rfl⟩
    rw [hX] at hcl HV
    clear hX HVD
    go_wp2_with (go_at_call 41; ((with_reducible refine (HV.out _).mono ?_); rintro e w9 ⟨rfl, rfl⟩))
    go_roundw
    case rel => exact ⟨j + 1, by omega, by go_num, Lib.hid HO.out⟩
    case measure => simp [intOf]; omega
  ·
   obtain rfl : j = n := by omega
   clear hlt hj HVD HSH HS
   go_wp2
   have l0 := fun (d : Nat) (os : Array Obj) => cell_regrown ((HO.out.bl.cell (p := ⟨ab, ao, none⟩) HAB.out).trans HC0.out) d os
   have l1 := fun (d : Nat) (os : Array Obj) => cell_regrown ((HO.out.bl.cell (p := ⟨ab, ao + 1, none⟩) HAB.out).trans HC1.out) d os
   refine wp_region_quiet_below (by as_aux_lemma => kernel_rfl) (by as_aux_lemma => kernel_rfl) ?_
   repeat (first | go_big_quiet_skip | (go_big_quiet_want; go_big_quiet_op; go_big_quiet_on))
   refine wpQuiet_nil ?_
   intro w4 hw4
   replace HO := Lib.hid (HO.out.on (below_of_regrown hw4))
   clear hw4
   clear l0 l1
   go_wp2_with fail
   refine region_setX (by kernel_rfl) _ (fun g i => if i = 8 then .pointer (some ⟨g, 0, none⟩) else [Value.int .i64 f, .string X0, .string (X0.extract 0 2), .string KD, .string X0, .string (X0.extract 2 5), .string ST, .agg (zon3 f KD ST).toArray, undef, undef].getD i undef) (WAS 8 9 w [(g2, zon0)] zon0 (zon3 f KD ST)) (by kernel_rfl) 0 (WAS.start (HO.out.on (below_drewN _ _ 1))) ?_ ?_
   ·
    refine ops_all (allI.cons ?_ (allI.cons ?_ (allI.cons ?_ (allI.cons ?_ (allI.cons ?_ (allI.cons ?_ (allI.cons ?_ (allI.cons ?_ (allI.cons ?_ (allI.cons ?_ allI.nil)))))))))) <;> intro g S cur a hW hSi hdep hS hC
    · exact o_mv (.tmp 4) rfl (hS.before hC hSi 4 rfl) ⟨g, fun _ _ => rfl, rfl, hW.skip (Below.refl _ _) (by decide) (by decide)⟩
    · exact o_mv (.tmp 6) rfl (hS.before hC hSi 6 rfl) ⟨g, fun _ _ => rfl, rfl, hW.skip (Below.refl _ _) (by decide) (by decide)⟩
    · exact o_sl _ (.tmp 47) _ _ _ rfl (hS.get 1 (dep_at hdep 1 rfl) rfl rfl) rfl rfl rfl (sl_h X0 2 (by omega) _) ⟨g, fun _ _ => rfl, rfl, hW.skip (Below.refl _ _) (by decide) (by decide)⟩
    · exact o_call1 _ (.tmp 48) _ rfl (hS.get 2 (dep_at hdep 2 rfl) rfl rfl) (run_trm _ _) (HTKD.out _) fun w' hb => ⟨g, fun _ _ => rfl, rfl, hW.skip hb (by decide) (by decide)⟩
    · exact o_mv (.tmp 6) rfl (hS.before hC hSi 6 rfl) ⟨g, fun _ _ => rfl, rfl, hW.skip (Below.refl _ _) (by decide) (by decide)⟩
    · exact o_sl _ (.tmp 50) _ _ _ rfl (hS.get 4 (dep_at hdep 4 rfl) rfl rfl) rfl rfl rfl (sl_lh X0 2 5 (by decide) (by omega) _) ⟨g, fun _ _ => rfl, rfl, hW.skip (Below.refl _ _) (by decide) (by decide)⟩
    · exact o_call1 _ (.tmp 51) _ rfl (hS.get 5 (dep_at hdep 5 rfl) rfl rfl) (run_trm _ _) (HTST.out _) fun w' hb => ⟨g, fun _ _ => rfl, rfl, hW.skip hb (by decide) (by decide)⟩
    · exact o_build _ _ rfl (by simp only [List.map_toArray, List.map_cons, List.map_nil, (hS.get 0 (dep_at hdep 0 rfl) rfl rfl), (hS.get 3 (dep_at hdep 3 rfl) rfl rfl), (hS.get 6 (dep_at hdep 6 rfl) rfl rfl)]; rfl) (build_zp _ _ _ _) ⟨g, fun _ _ => rfl, rfl, hW.skip (Below.refl _ _) (by decide) (by decide)⟩
    · have h8 : S 9 = false := by
       rcases hq : S 9 with _ | _
       · rfl
       · have := dep_at (hC 9 _ rfl hq) 8 rfl
         rw [this] at hSi; cases hSi
      refine wp_alloc_v 44 rfl zon0 info_z ?_
      intro g8 w' hf hr
      refine ⟨g8, fun j hj => ?_, rfl, WAS.made (by decide) h8 (hW.1.new hf hr)⟩
      have h0 : j ≠ 8 := fun e => by rw [e] at hj; rw [hj] at hSi; cases hSi
      simp only [if_neg h0]
    · have h7 := dep_at hdep 8 rfl
      have ho := hW.2.1 h7 hSi
      refine wp_store_v 44 (.tmp 8) (.tmp 53) rfl g zon0 (zon3 f KD ST) (hS.get 8 h7 rfl rfl) (hS.get 7 (dep_at hdep 7 rfl) rfl rfl) (ho.row (i := 1) rfl) rfl (by intro u hu; simp [zon3] at hu; rcases hu with rfl | rfl | rfl | rfl <;> rfl) size_z ?_
      intro w' hw hr
      exact ⟨g, fun _ _ => rfl, rfl, WAS.put (ho.set (i := 1) rfl hw hr)⟩
   intro g8 cur SS hall hW
   replace HO : Hid (Own w cur [(g2, zon0), (g8, [.int .i64 f, .string KD, .string ST, .string ⟨#[]⟩, .string ⟨#[]⟩, .string ⟨#[]⟩, .string ⟨#[]⟩, .string ⟨#[]⟩, .string ⟨#[]⟩, .string ⟨#[]⟩, .string ⟨#[]⟩, .string ⟨#[]⟩])]) := Lib.hid (hW.2.2 (hall 9 (by decide)))
   clear hW hall SS
   simp only [putAll, Act.put]
   simp
   go_upto_block 2 with fail
   go_cut [9, 10, 11, 12, 13, 14] from 54 to 132 (fun v9 v10 v11 v12 v13 v14 wx => ∃ N D Y O AL NM NA SE : ByteArray, v9 = .string N ∧ v10 = .string D ∧ v11 = .string Y ∧ v12 = .string O ∧ v13 = .string AL ∧ v14 = .string NM ∧ Hid (Sw f ls N D Y O AL NM NA SE) ∧ Hid (Own w wx [(g2, zon0), (g8, [.int .i64 f, .string KD, .string ST, .string ⟨#[]⟩, .string ⟨#[]⟩, .string ⟨#[]⟩, .string NA, .string ⟨#[]⟩, .string ⟨#[]⟩, .string ⟨#[]⟩, .string ⟨#[]⟩, .string SE])]))
   case first =>
    have hf3 : f = 1 ∨ f = 2 ∨ f = 3 := by omega
    rcases hf3 with rfl | rfl | rfl
    ·
     obtain ⟨X2, hX2⟩ : ∃ X, S (ls.getD 2 []) = X := ⟨_, rfl⟩
     have HC2 : Hid (w.cell? ⟨ab, ao + 2, none⟩ = some (.string X2)) := Lib.hid (by rw [← hX2]; exact HCL.out 2 (by have := HNC.out; have : cntN 1 = 3 := rfl; omega))
     have n3 : 3 ≤ j := by have := HNC.out; have : cntN 1 = 3 := rfl; omega
     have HSW := Lib.hid (sw_1 HP.out.2.2)
     rw [HXX.out.1, HXX.out.2, hX2] at HSW
     obtain ⟨NAT, hNAT⟩ : ∃ Y, S (trimT (((ls.getD 1 []).drop 15).take 3)) = Y := ⟨_, rfl⟩
     have HTNAT : Hid (∀ w, Calls Tryz.prog 52 #[.string (X1.extract 15 18)] w fun e w' => e = .returned (.string NAT) ∧ Below w.heap.size w w') := Lib.hid (fun w => by rw [← hNAT]; exact trm_b _ _ (by rw [← HXX.out.2, S_extract]) (by rw [ByteArray.size_extract]; omega) w)
     obtain ⟨SEC, hSEC⟩ : ∃ Y, S (trimT (((ls.getD 1 []).drop 18).take 11)) = Y := ⟨_, rfl⟩
     have HTSEC : Hid (∀ w, Calls Tryz.prog 52 #[.string (X1.extract 18 29)] w fun e w' => e = .returned (.string SEC) ∧ Below w.heap.size w w') := Lib.hid (fun w => by rw [← hSEC]; exact trm_b _ _ (by rw [← HXX.out.2, S_extract]) (by rw [ByteArray.size_extract]; omega) w)
     rw [hNAT, hSEC] at HSW
     clear hX2 hNAT hSEC
     go_wp2_with fail
     have l2 := fun (d : Nat) (os : Array Obj) => cell_regrown ((HO.out.bl.cell (p := ⟨ab, ao + 2, none⟩) HAB.out).trans HC2.out) d os
     refine wp_region_quiet_below (by as_aux_lemma => kernel_rfl) (by as_aux_lemma => kernel_rfl) ?_
     repeat (first | go_big_quiet_skip | (go_big_quiet_want; go_big_quiet_op; go_big_quiet_on))
     refine wpQuiet_nil ?_
     intro w4 hw4
     replace HO := Lib.hid (HO.out.on (below_of_regrown hw4))
     clear hw4
     clear l2
     go_wp2_with fail
     refine region_setC (by kernel_rfl) _ (fun (_ : Unit) i => ([.string X1, .string (X1.extract 15 18), .string NAT, .string X1, .string (X1.extract 18 29), .string SEC, .pointer (some ⟨g8, 6, none⟩), undef, .pointer (some ⟨g8, 11, none⟩), undef] : List Value).getD i undef) (fun _ S cur => Own w cur ([(g2, zon0)] ++ [(g8, [.int .i64 1, .string KD, .string ST, .string ⟨#[]⟩, .string ⟨#[]⟩, .string ⟨#[]⟩, if S 7 = true then .string NAT else .string ⟨#[]⟩, .string ⟨#[]⟩, .string ⟨#[]⟩, .string ⟨#[]⟩, .string ⟨#[]⟩, if S 9 = true then .string SEC else .string ⟨#[]⟩])])) (by kernel_rfl) () (by simp only [Bool.false_eq_true, ite_false]; exact HO.out.on (below_drewN _ _ 1)) ?_ ?_
     ·
      refine ops_all (allI.cons ?_ (allI.cons ?_ (allI.cons ?_ (allI.cons ?_ (allI.cons ?_ (allI.cons ?_ (allI.cons ?_ (allI.cons ?_ (allI.cons ?_ (allI.cons ?_ allI.nil)))))))))) <;> intro _ S cur a hW hSi hdep hS hC <;> refine ⟨(), fun _ _ => rfl, ?_⟩
      · exact o_mv (.tmp 7) rfl (hS.before hC hSi 7 rfl) ⟨rfl, by simpa using hW⟩
      · exact o_sl _ (.tmp 90) _ _ _ rfl (hS.get 0 (dep_at hdep 0 rfl) rfl rfl) rfl rfl rfl (sl_lh X1 15 18 (by decide) (by first | omega | (simp only [ByteArray.size_extract]; omega)) _) ⟨rfl, by simpa using hW⟩
      · exact o_call1 _ (.tmp 91) _ rfl (hS.get 1 (dep_at hdep 1 rfl) rfl rfl) (run_trm _ _) (HTNAT.out _) fun w' hb => ⟨rfl, by simpa using hW.on hb⟩
      · exact o_mv (.tmp 7) rfl (hS.before hC hSi 7 rfl) ⟨rfl, by simpa using hW⟩
      · exact o_sl _ (.tmp 93) _ _ _ rfl (hS.get 3 (dep_at hdep 3 rfl) rfl rfl) rfl rfl rfl (sl_lh X1 18 29 (by decide) (by first | omega | (simp only [ByteArray.size_extract]; omega)) _) ⟨rfl, by simpa using hW⟩
      · exact o_call1 _ (.tmp 94) _ rfl (hS.get 4 (dep_at hdep 4 rfl) rfl rfl) (run_trm _ _) (HTSEC.out _) fun w' hb => ⟨rfl, by simpa using hW.on hb⟩
      · exact o_fa _ (.tmp 8) 6 rfl (hS.before hC hSi 8 rfl) (fa_z6 g8 _) ⟨rfl, by simpa using hW⟩
      · rw [hSi] at hW
        refine wp_store_at 9 (.tmp 96) (.tmp 92) rfl g8 6 _ (.string NAT) (hS.get 6 (dep_at hdep 6 rfl) rfl rfl) (hS.get 2 (dep_at hdep 2 rfl) rfl rfl) (hW.row (i := 1) rfl) (by simp) rfl rfl size_st ?_
        intro w' hw hr
        exact ⟨rfl, by simpa using hW.set (i := 1) rfl hw hr⟩
      · exact o_fa _ (.tmp 8) 11 rfl (hS.before hC hSi 8 rfl) (fa_z11 g8 _) ⟨rfl, by simpa using hW⟩
      · rw [hSi] at hW
        refine wp_store_at 9 (.tmp 97) (.tmp 95) rfl g8 11 _ (.string SEC) (hS.get 8 (dep_at hdep 8 rfl) rfl rfl) (hS.get 5 (dep_at hdep 5 rfl) rfl rfl) (hW.row (i := 1) rfl) (by simp) rfl rfl size_st ?_
        intro w' hw hr
        exact ⟨rfl, by simpa using hW.set (i := 1) rfl hw hr⟩
     intro _ cur SS hall hW
     rw [hall 7 (by decide), hall 9 (by decide)] at hW
     replace HO : Hid (Own w cur [(g2, zon0), (g8, [.int .i64 1, .string KD, .string ST, .string ⟨#[]⟩, .string ⟨#[]⟩, .string ⟨#[]⟩, .string NAT, .string ⟨#[]⟩, .string ⟨#[]⟩, .string ⟨#[]⟩, .string ⟨#[]⟩, .string SEC])]) := Lib.hid hW
     clear hW hall SS
     simp only [putAll, Act.put]
     simp
     go_wp2_with fail
     refine wp_region_quiet_below (by as_aux_lemma => kernel_rfl) (by as_aux_lemma => kernel_rfl) ?_
     repeat (first | go_big_quiet_skip | (go_big_quiet_want; go_big_quiet_op; go_big_quiet_on))
     refine wpQuiet_nil ?_
     intro w4 hw4
     replace HO := Lib.hid (HO.out.on (below_of_regrown hw4))
     clear hw4
     go_wp2_with fail
     go_meet
     exact ⟨_, _, _, _, _, _, _, _, rfl, rfl, rfl, rfl, rfl, rfl, HSW, HO⟩
    ·
     have HSW := Lib.hid (sw_2 HP.out.2.2)
     rw [HXX.out.1, HXX.out.2] at HSW
     have z36 : 36 ≤ X1.size ∧ 36 ≤ X0.size := by rw [HZW.out.1, HZW.out.2]; decide
     obtain ⟨NAT, hNAT⟩ : ∃ Y, S (trimT (((ls.getD 1 []).drop 10).take 3)) = Y := ⟨_, rfl⟩
     have HTNAT : Hid (∀ w, Calls Tryz.prog 52 #[.string (X1.extract 10 13)] w fun e w' => e = .returned (.string NAT) ∧ Below w.heap.size w w') := Lib.hid (fun w => by rw [← hNAT]; exact trm_b _ _ (by rw [← HXX.out.2, S_extract]) (by rw [ByteArray.size_extract]; omega) w)
     rw [hNAT] at HSW
     clear hNAT
     go_wp2_with fail
     refine wp_region_quiet_below (by as_aux_lemma => kernel_rfl) (by as_aux_lemma => kernel_rfl) ?_
     repeat (first | go_big_quiet_skip | (go_big_quiet_want; go_big_quiet_op; go_big_quiet_on))
     refine wpQuiet_nil ?_
     intro w4 hw4
     replace HO := Lib.hid (HO.out.on (below_of_regrown hw4))
     clear hw4
     go_wp2_with fail
     refine region_setC2 (by kernel_rfl) _ (fun (_ : Unit) i => ([.string X1, .string (X1.extract 10 13), .string NAT, .string X1, .string (X1.extract 0 10), .string X1, .string (X1.extract 13 20), .string (X1.extract 0 10 ++ X1.extract 13 20), .string X1, .string (X1.extract 21 35), .string (X1.extract 0 10 ++ X1.extract 13 20 ++ X1.extract 21 35), .pointer (some ⟨g8, 6, none⟩), undef, .string (X1.extract 0 10 ++ X1.extract 13 20 ++ X1.extract 21 35)] : List Value).getD i undef) (fun _ S cur => Own w cur ([(g2, zon0)] ++ [(g8, [.int .i64 2, .string KD, .string ST, .string ⟨#[]⟩, .string ⟨#[]⟩, .string ⟨#[]⟩, if S 12 = true then .string NAT else .string ⟨#[]⟩, .string ⟨#[]⟩, .string ⟨#[]⟩, .string ⟨#[]⟩, .string ⟨#[]⟩, .string ⟨#[]⟩])])) (by kernel_rfl) () (by simp only [Bool.false_eq_true, ite_false]; exact HO.out.on (below_drewN _ _ 1)) ?_ ?_
     ·
      refine ops_all (allI.cons ?_ (allI.cons ?_ (allI.cons ?_ (allI.cons ?_ (allI.cons ?_ (allI.cons ?_ (allI.cons ?_ (allI.cons ?_ (allI.cons ?_ (allI.cons ?_ (allI.cons ?_ (allI.cons ?_ (allI.cons ?_ (allI.cons ?_ allI.nil)))))))))))))) <;> intro _ S cur a hW hSi hdep hS hC <;> refine ⟨(), fun _ _ => rfl, ?_⟩
      · exact o_mv (.tmp 7) rfl (hS.before hC hSi 7 rfl) ⟨rfl, by simpa using hW⟩
      · exact o_sl _ (.tmp 121) _ _ _ rfl (hS.get 0 (dep_at hdep 0 rfl) rfl rfl) rfl rfl rfl (sl_lh X1 10 13 (by decide) (by first | omega | (simp only [ByteArray.size_extract]; omega)) _) ⟨rfl, by simpa using hW⟩
      · exact o_call1 _ (.tmp 122) _ rfl (hS.get 1 (dep_at hdep 1 rfl) rfl rfl) (run_trm _ _) (HTNAT.out _) fun w' hb => ⟨rfl, by simpa using hW.on hb⟩
      · exact o_mv (.tmp 7) rfl (hS.before hC hSi 7 rfl) ⟨rfl, by simpa using hW⟩
      · exact o_sl _ (.tmp 124) _ _ _ rfl (hS.get 3 (dep_at hdep 3 rfl) rfl rfl) rfl rfl rfl (sl_lh X1 0 10 (by decide) (by first | omega | (simp only [ByteArray.size_extract]; omega)) _) ⟨rfl, by simpa using hW⟩
      · exact o_mv (.tmp 7) rfl (hS.before hC hSi 7 rfl) ⟨rfl, by simpa using hW⟩
      · exact o_sl _ (.tmp 126) _ _ _ rfl (hS.get 5 (dep_at hdep 5 rfl) rfl rfl) rfl rfl rfl (sl_lh X1 13 20 (by decide) (by first | omega | (simp only [ByteArray.size_extract]; omega)) _) ⟨rfl, by simpa using hW⟩
      · exact o_add _ _ (.tmp 125) (.tmp 127) rfl (hS.get 4 (dep_at hdep 4 rfl) rfl rfl) (hS.get 6 (dep_at hdep 6 rfl) rfl rfl) (add_str _ _ (by first | (simp only [ByteArray.size_extract]; omega) | (simp only [ByteArray.size_append, ByteArray.size_extract]; omega)) _ _ _) ⟨rfl, by simpa using hW⟩
      · exact o_mv (.tmp 7) rfl (hS.before hC hSi 7 rfl) ⟨rfl, by simpa using hW⟩
      · exact o_sl _ (.tmp 129) _ _ _ rfl (hS.get 8 (dep_at hdep 8 rfl) rfl rfl) rfl rfl rfl (sl_lh X1 21 35 (by decide) (by first | omega | (simp only [ByteArray.size_extract]; omega)) _) ⟨rfl, by simpa using hW⟩
      · exact o_add _ _ (.tmp 128) (.tmp 130) rfl (hS.get 7 (dep_at hdep 7 rfl) rfl rfl) (hS.get 9 (dep_at hdep 9 rfl) rfl rfl) (add_str _ _ (by first | (simp only [ByteArray.size_extract]; omega) | (simp only [ByteArray.size_append, ByteArray.size_extract]; omega)) _ _ _) ⟨rfl, by simpa using hW⟩
      · exact o_fa _ (.tmp 8) 6 rfl (hS.before hC hSi 8 rfl) (fa_z6 g8 _) ⟨rfl, by simpa using hW⟩
      · rw [hSi] at hW
        refine wp_store_at 9 (.tmp 132) (.tmp 123) rfl g8 6 _ (.string NAT) (hS.get 11 (dep_at hdep 11 rfl) rfl rfl) (hS.get 2 (dep_at hdep 2 rfl) rfl rfl) (hW.row (i := 1) rfl) (by simp) rfl rfl size_st ?_
        intro w' hw hr
        exact ⟨rfl, by simpa using hW.set (i := 1) rfl hw hr⟩
      · exact o_as (.tmp 131) rfl (hS.get 10 (dep_at hdep 10 rfl) rfl rfl) ⟨rfl, by simpa using hW⟩
     intro _ cur SS hall hW
     rw [hall 12 (by decide)] at hW
     replace HO : Hid (Own w cur [(g2, zon0), (g8, [.int .i64 2, .string KD, .string ST, .string ⟨#[]⟩, .string ⟨#[]⟩, .string ⟨#[]⟩, .string NAT, .string ⟨#[]⟩, .string ⟨#[]⟩, .string ⟨#[]⟩, .string ⟨#[]⟩, .string ⟨#[]⟩])]) := Lib.hid hW
     clear hW hall SS
     simp only [putAll, Act.put]
     simp
     go_wp2_with fail
     go_meet
     exact ⟨_, _, _, _, _, _, _, _, rfl, rfl, rfl, rfl, rfl, rfl, HSW, HO⟩
    ·
     have HSW := Lib.hid (sw_3 HP.out.2.2)
     rw [HXX.out.1, HXX.out.2] at HSW
     have z36 : 44 ≤ X1.size ∧ 44 ≤ X0.size := by rw [HZW.out.1, HZW.out.2]; decide
     obtain ⟨NAT, hNAT⟩ : ∃ Y, S (trimT (((ls.getD 1 []).drop 10).take 3)) = Y := ⟨_, rfl⟩
     have HTNAT : Hid (∀ w, Calls Tryz.prog 52 #[.string (X1.extract 10 13)] w fun e w' => e = .returned (.string NAT) ∧ Below w.heap.size w w') := Lib.hid (fun w => by rw [← hNAT]; exact trm_b _ _ (by rw [← HXX.out.2, S_extract]) (by rw [ByteArray.size_extract]; omega) w)
     rw [hNAT] at HSW
     clear hNAT
     go_wp2_with fail
     refine wp_region_quiet_below (by as_aux_lemma => kernel_rfl) (by as_aux_lemma => kernel_rfl) ?_
     repeat (first | go_big_quiet_skip | (go_big_quiet_want; go_big_quiet_op; go_big_quiet_on))
     refine wpQuiet_nil ?_
     intro w4 hw4
     replace HO := Lib.hid (HO.out.on (below_of_regrown hw4))
     clear hw4
     go_wp2_with fail
     refine region_setC2 (by kernel_rfl) _ (fun (_ : Unit) i => ([.string X1, .string (X1.extract 10 13), .string NAT, .string X1, .string (X1.extract 0 10), .string X1, .string (X1.extract 13 20), .string (X1.extract 0 10 ++ X1.extract 13 20), .string X1, .string (X1.extract 21 43), .string (X1.extract 0 10 ++ X1.extract 13 20 ++ X1.extract 21 43), .pointer (some ⟨g8, 6, none⟩), undef, .string (X1.extract 0 10 ++ X1.extract 13 20 ++ X1.extract 21 43)] : List Value).getD i undef) (fun _ S cur => Own w cur ([(g2, zon0)] ++ [(g8, [.int .i64 3, .string KD, .string ST, .string ⟨#[]⟩, .string ⟨#[]⟩, .string ⟨#[]⟩, if S 12 = true then .string NAT else .string ⟨#[]⟩, .string ⟨#[]⟩, .string ⟨#[]⟩, .string ⟨#[]⟩, .string ⟨#[]⟩, .string ⟨#[]⟩])])) (by kernel_rfl) () (by simp only [Bool.false_eq_true, ite_false]; exact HO.out.on (below_drewN _ _ 1)) ?_ ?_
     ·
      refine ops_all (allI.cons ?_ (allI.cons ?_ (allI.cons ?_ (allI.cons ?_ (allI.cons ?_ (allI.cons ?_ (allI.cons ?_ (allI.cons ?_ (allI.cons ?_ (allI.cons ?_ (allI.cons ?_ (allI.cons ?_ (allI.cons ?_ (allI.cons ?_ allI.nil)))))))))))))) <;> intro _ S cur a hW hSi hdep hS hC <;> refine ⟨(), fun _ _ => rfl, ?_⟩
      · exact o_mv (.tmp 7) rfl (hS.before hC hSi 7 rfl) ⟨rfl, by simpa using hW⟩
      · exact o_sl _ (.tmp 65) _ _ _ rfl (hS.get 0 (dep_at hdep 0 rfl) rfl rfl) rfl rfl rfl (sl_lh X1 10 13 (by decide) (by first | omega | (simp only [ByteArray.size_extract]; omega)) _) ⟨rfl, by simpa using hW⟩
      · exact o_call1 _ (.tmp 66) _ rfl (hS.get 1 (dep_at hdep 1 rfl) rfl rfl) (run_trm _ _) (HTNAT.out _) fun w' hb => ⟨rfl, by simpa using hW.on hb⟩
      · exact o_mv (.tmp 7) rfl (hS.before hC hSi 7 rfl) ⟨rfl, by simpa using hW⟩
      · exact o_sl _ (.tmp 68) _ _ _ rfl (hS.get 3 (dep_at hdep 3 rfl) rfl rfl) rfl rfl rfl (sl_lh X1 0 10 (by decide) (by first | omega | (simp only [ByteArray.size_extract]; omega)) _) ⟨rfl, by simpa using hW⟩
      · exact o_mv (.tmp 7) rfl (hS.before hC hSi 7 rfl) ⟨rfl, by simpa using hW⟩
      · exact o_sl _ (.tmp 70) _ _ _ rfl (hS.get 5 (dep_at hdep 5 rfl) rfl rfl) rfl rfl rfl (sl_lh X1 13 20 (by decide) (by first | omega | (simp only [ByteArray.size_extract]; omega)) _) ⟨rfl, by simpa using hW⟩
      · exact o_add _ _ (.tmp 69) (.tmp 71) rfl (hS.get 4 (dep_at hdep 4 rfl) rfl rfl) (hS.get 6 (dep_at hdep 6 rfl) rfl rfl) (add_str _ _ (by first | (simp only [ByteArray.size_extract]; omega) | (simp only [ByteArray.size_append, ByteArray.size_extract]; omega)) _ _ _) ⟨rfl, by simpa using hW⟩
      · exact o_mv (.tmp 7) rfl (hS.before hC hSi 7 rfl) ⟨rfl, by simpa using hW⟩
      · exact o_sl _ (.tmp 73) _ _ _ rfl (hS.get 8 (dep_at hdep 8 rfl) rfl rfl) rfl rfl rfl (sl_lh X1 21 43 (by decide) (by first | omega | (simp only [ByteArray.size_extract]; omega)) _) ⟨rfl, by simpa using hW⟩
      · exact o_add _ _ (.tmp 72) (.tmp 74) rfl (hS.get 7 (dep_at hdep 7 rfl) rfl rfl) (hS.get 9 (dep_at hdep 9 rfl) rfl rfl) (add_str _ _ (by first | (simp only [ByteArray.size_extract]; omega) | (simp only [ByteArray.size_append, ByteArray.size_extract]; omega)) _ _ _) ⟨rfl, by simpa using hW⟩
      · exact o_fa _ (.tmp 8) 6 rfl (hS.before hC hSi 8 rfl) (fa_z6 g8 _) ⟨rfl, by simpa using hW⟩
      · rw [hSi] at hW
        refine wp_store_at 9 (.tmp 76) (.tmp 67) rfl g8 6 _ (.string NAT) (hS.get 11 (dep_at hdep 11 rfl) rfl rfl) (hS.get 2 (dep_at hdep 2 rfl) rfl rfl) (hW.row (i := 1) rfl) (by simp) rfl rfl size_st ?_
        intro w' hw hr
        exact ⟨rfl, by simpa using hW.set (i := 1) rfl hw hr⟩
      · exact o_as (.tmp 75) rfl (hS.get 10 (dep_at hdep 10 rfl) rfl rfl) ⟨rfl, by simpa using hW⟩
     intro _ cur SS hall hW
     rw [hall 12 (by decide)] at hW
     replace HO : Hid (Own w cur [(g2, zon0), (g8, [.int .i64 3, .string KD, .string ST, .string ⟨#[]⟩, .string ⟨#[]⟩, .string ⟨#[]⟩, .string NAT, .string ⟨#[]⟩, .string ⟨#[]⟩, .string ⟨#[]⟩, .string ⟨#[]⟩, .string ⟨#[]⟩])]) := Lib.hid hW
     clear hW hall SS
     simp only [putAll, Act.put]
     simp
     go_wp2_with fail
     go_meet
     exact ⟨_, _, _, _, _, _, _, _, rfl, rfl, rfl, rfl, rfl, rfl, HSW, HO⟩
   case rest =>
    clear HO HTKD HTST HC0 HC1
    obtain ⟨N, D, Y, O, AL, NM, NA, SE, rfl, rfl, rfl, rfl, rfl, rfl, HW, HO⟩ := hcut
    have sL : ∀ k, k < 15 → (fd f ls k).length = sizN f k := fun k hk => fd_len hf HP.out.2.2 hk
    have sA := siz_all hf
    have sN : N.size = 9 := by rw [HW.out.n, S_size, sL 3 (by decide)]; exact sA.2.2.2.1
    have sD : D.size = 1 := by rw [HW.out.d, S_size, sL 4 (by decide)]; exact sA.2.2.2.2.1
    have sO : O.size ≤ 15 := by
     rw [HW.out.o, S_size, sL 11 (by decide), sA.2.2.2.2.2.2.2.2.2.2.2.1]
     unfold optN; repeat (first | omega | split)
    have sAL : AL.size ≤ 176 := by rw [HW.out.al, S_size]; exact cmp_len HP.out.2.2 hf
    have sY : Y.size = 15 := HW.out.sy
    have HSL := Lib.hid (And.intro sL sA)
    clear sL sA
    obtain ⟨TN, hTN⟩ : ∃ Y, S (trimT (fd f ls 3)) = Y := ⟨_, rfl⟩
    have HTTN : Hid (∀ w, Calls Tryz.prog 52 #[.string (N)] w fun e w' => e = .returned (.string TN) ∧ Below w.heap.size w w') := Lib.hid (fun w => by rw [← hTN]; exact trm_b _ _ HW.out.n (by omega) w)
    obtain ⟨TO, hTO⟩ : ∃ Y, S (trimT (fd f ls 11)) = Y := ⟨_, rfl⟩
    have HTTO : Hid (∀ w, Calls Tryz.prog 52 #[.string (O)] w fun e w' => e = .returned (.string TO) ∧ Below w.heap.size w w') := Lib.hid (fun w => by rw [← hTO]; exact trm_b _ _ HW.out.o (by omega) w)
    go_wp2_with fail
    refine region_setC (by kernel_rfl) _ (fun (_ : Unit) i => ([.string N, .string TN, .string Y, .string (Y.extract 0 6), .string Y, .string (Y.extract 7 8), .string Y, .string (Y.extract 8 14), .string O, .string TO, .pointer (some ⟨g8, 5, none⟩), undef, .pointer (some ⟨g8, 7, none⟩), undef, .pointer (some ⟨g8, 8, none⟩), undef, .pointer (some ⟨g8, 9, none⟩), undef, .pointer (some ⟨g8, 10, none⟩), undef] : List Value).getD i undef) (fun _ S cur => Own w cur ([(g2, zon0)] ++ [(g8, [.int .i64 f, .string KD, .string ST, .string ⟨#[]⟩, .string ⟨#[]⟩, if S 11 = true then .string TN else .string ⟨#[]⟩, .string NA, if S 13 = true then .string (Y.extract 0 6) else .string ⟨#[]⟩, if S 15 = true then .string (Y.extract 7 8) else .string ⟨#[]⟩, if S 17 = true then .string (Y.extract 8 14) else .string ⟨#[]⟩, if S 19 = true then .string TO else .string ⟨#[]⟩, .string SE])])) (by kernel_rfl) () (by simp only [Bool.false_eq_true, ite_false]; exact HO.out.on (below_drewN _ _ 1)) ?_ ?_
    ·
     refine ops_all (allI.cons ?_ (allI.cons ?_ (allI.cons ?_ (allI.cons ?_ (allI.cons ?_ (allI.cons ?_ (allI.cons ?_ (allI.cons ?_ (allI.cons ?_ (allI.cons ?_ (allI.cons ?_ (allI.cons ?_ (allI.cons ?_ (allI.cons ?_ (allI.cons ?_ (allI.cons ?_ (allI.cons ?_ (allI.cons ?_ (allI.cons ?_ (allI.cons ?_ allI.nil)))))))))))))))))))) <;> intro _ S cur a hW hSi hdep hS hC <;> refine ⟨(), fun _ _ => rfl, ?_⟩
     · exact o_mv (.tmp 9) rfl (hS.before hC hSi 9 rfl) ⟨rfl, by simpa using hW⟩
     · exact o_call1 _ (.tmp 133) _ rfl (hS.get 0 (dep_at hdep 0 rfl) rfl rfl) (run_trm _ _) (HTTN.out _) fun w' hb => ⟨rfl, by simpa using hW.on hb⟩
     · exact o_mv (.tmp 11) rfl (hS.before hC hSi 11 rfl) ⟨rfl, by simpa using hW⟩
     · exact o_sl _ (.tmp 135) _ _ _ rfl (hS.get 2 (dep_at hdep 2 rfl) rfl rfl) rfl rfl rfl (sl_h Y 6 (by first | omega | (simp only [ByteArray.size_extract]; omega)) _) ⟨rfl, by simpa using hW⟩
     · exact o_mv (.tmp 11) rfl (hS.before hC hSi 11 rfl) ⟨rfl, by simpa using hW⟩
     · exact o_sl _ (.tmp 137) _ _ _ rfl (hS.get 4 (dep_at hdep 4 rfl) rfl rfl) rfl rfl rfl (sl_lh Y 7 8 (by decide) (by first | omega | (simp only [ByteArray.size_extract]; omega)) _) ⟨rfl, by simpa using hW⟩
     · exact o_mv (.tmp 11) rfl (hS.before hC hSi 11 rfl) ⟨rfl, by simpa using hW⟩
     · exact o_sl _ (.tmp 139) _ _ _ rfl (hS.get 6 (dep_at hdep 6 rfl) rfl rfl) rfl rfl rfl (sl_lh Y 8 14 (by decide) (by first | omega | (simp only [ByteArray.size_extract]; omega)) _) ⟨rfl, by simpa using hW⟩
     · exact o_mv (.tmp 12) rfl (hS.before hC hSi 12 rfl) ⟨rfl, by simpa using hW⟩
     · exact o_call1 _ (.tmp 141) _ rfl (hS.get 8 (dep_at hdep 8 rfl) rfl rfl) (run_trm _ _) (HTTO.out _) fun w' hb => ⟨rfl, by simpa using hW.on hb⟩
     · exact o_fa _ (.tmp 8) 5 rfl (hS.before hC hSi 8 rfl) (fa_z5 g8 _) ⟨rfl, by simpa using hW⟩
     · rw [hSi] at hW
       refine wp_store_at 9 (.tmp 143) (.tmp 134) rfl g8 5 _ (.string TN) (hS.get 10 (dep_at hdep 10 rfl) rfl rfl) (hS.get 1 (dep_at hdep 1 rfl) rfl rfl) (hW.row (i := 1) rfl) (by simp) rfl rfl size_st ?_
       intro w' hw hr
       exact ⟨rfl, by simpa using hW.set (i := 1) rfl hw hr⟩
     · exact o_fa _ (.tmp 8) 7 rfl (hS.before hC hSi 8 rfl) (fa_z7 g8 _) ⟨rfl, by simpa using hW⟩
     · rw [hSi] at hW
       refine wp_store_at 9 (.tmp 144) (.tmp 136) rfl g8 7 _ (.string (Y.extract 0 6)) (hS.get 12 (dep_at hdep 12 rfl) rfl rfl) (hS.get 3 (dep_at hdep 3 rfl) rfl rfl) (hW.row (i := 1) rfl) (by simp) rfl rfl size_st ?_
       intro w' hw hr
       exact ⟨rfl, by simpa using hW.set (i := 1) rfl hw hr⟩
     · exact o_fa _ (.tmp 8) 8 rfl (hS.before hC hSi 8 rfl) (fa_z8 g8 _) ⟨rfl, by simpa using hW⟩
     · rw [hSi] at hW
       refine wp_store_at 9 (.tmp 145) (.tmp 138) rfl g8 8 _ (.string (Y.extract 7 8)) (hS.get 14 (dep_at hdep 14 rfl) rfl rfl) (hS.get 5 (dep_at hdep 5 rfl) rfl rfl) (hW.row (i := 1) rfl) (by simp) rfl rfl size_st ?_
       intro w' hw hr
       exact ⟨rfl, by simpa using hW.set (i := 1) rfl hw hr⟩
     · exact o_fa _ (.tmp 8) 9 rfl (hS.before hC hSi 8 rfl) (fa_z9 g8 _) ⟨rfl, by simpa using hW⟩
     · rw [hSi] at hW
       refine wp_store_at 9 (.tmp 146) (.tmp 140) rfl g8 9 _ (.string (Y.extract 8 14)) (hS.get 16 (dep_at hdep 16 rfl) rfl rfl) (hS.get 7 (dep_at hdep 7 rfl) rfl rfl) (hW.row (i := 1) rfl) (by simp) rfl rfl size_st ?_
       intro w' hw hr
       exact ⟨rfl, by simpa using hW.set (i := 1) rfl hw hr⟩
     · exact o_fa _ (.tmp 8) 10 rfl (hS.before hC hSi 8 rfl) (fa_z10 g8 _) ⟨rfl, by simpa using hW⟩
     · rw [hSi] at hW
       refine wp_store_at 9 (.tmp 147) (.tmp 142) rfl g8 10 _ (.string TO) (hS.get 18 (dep_at hdep 18 rfl) rfl rfl) (hS.get 9 (dep_at hdep 9 rfl) rfl rfl) (hW.row (i := 1) rfl) (by simp) rfl rfl size_st ?_
       intro w' hw hr
       exact ⟨rfl, by simpa using hW.set (i := 1) rfl hw hr⟩
    intro _ cur SS hall hW
    rw [hall 11 (by decide), hall 13 (by decide), hall 15 (by decide), hall 17 (by decide), hall 19 (by decide)] at hW
    replace HO : Hid (Own w cur [(g2, zon0), (g8, [.int .i64 f, .string KD, .string ST, .string ⟨#[]⟩, .string ⟨#[]⟩, .string TN, .string NA, .string (Y.extract 0 6), .string (Y.extract 7 8), .string (Y.extract 8 14), .string TO, .string SE])]) := Lib.hid hW
    clear hW hall SS
    simp only [putAll, Act.put]
    simp
    go_wp2_with fail
    replace HO : Hid (Own w _ [(g2, zon0), (g8, [.int .i64 f, .string KD, .string ST, .string ⟨#[]⟩, .string ⟨#[]⟩, .string TN, .string NA, .string (S (fd f ls 6)), .string (S (fd f ls 8)), .string (S (fd f ls 9)), .string TO, .string SE])]) := Lib.hid (by have := HO.out; rw [HW.out.y6, HW.out.y8, HW.out.y9] at this; exact this)
    have HTT := Lib.hid (And.intro hTN hTO)
    clear hTN hTO HTTN HTTO
    have i0 := fun w => ix_lit0 (s := D) HW.out.d (by omega) rfl w
    have i6 := HW.out.i6
    have i14 := HW.out.i14
    have HR1 : Hid (∀ b, rightB (fd f ls 3) (cB (fd f ls 4) 0) = b → ∀ w, Calls Tryz.prog 53 #[.string N, .int .u8 (cB (fd f ls 4) 0)] w fun e w' => e = .returned (.bool b) ∧ Below w.heap.size w w') := Lib.hid (fun b hb w => by rw [HW.out.n]; exact r_right _ _ b hb w (by rw [← HW.out.n]; omega))
    obtain ⟨b1, hb1⟩ : ∃ b, rightB (fd f ls 3) (cB (fd f ls 4) 0) = b := ⟨_, rfl⟩
    have HR2 : Hid (∀ b, rightB (fd f ls 6) (cB (fd f ls 7) 0) = b → ∀ w, Calls Tryz.prog 53 #[.string (S (fd f ls 6)), .int .u8 (cB (fd f ls 7) 0)] w fun e w' => e = .returned (.bool b) ∧ Below w.heap.size w w') := Lib.hid (fun b hb w => r_right _ _ b hb w (by rw [S_size, HSL.out.1 _ (by decide)]; have := siz_le hf (k := 6) (by decide); omega))
    obtain ⟨b2, hb2⟩ : ∃ b, rightB (fd f ls 6) (cB (fd f ls 7) 0) = b := ⟨_, rfl⟩
    have HR3 : Hid (∀ b, rightB (fd f ls 9) (cB (fd f ls 10) 0) = b → ∀ w, Calls Tryz.prog 53 #[.string (S (fd f ls 9)), .int .u8 (cB (fd f ls 10) 0)] w fun e w' => e = .returned (.bool b) ∧ Below w.heap.size w w') := Lib.hid (fun b hb w => r_right _ _ b hb w (by rw [S_size, HSL.out.1 _ (by decide)]; have := siz_le hf (k := 9) (by decide); omega))
    obtain ⟨b3, hb3⟩ : ∃ b, rightB (fd f ls 9) (cB (fd f ls 10) 0) = b := ⟨_, rfl⟩
    obtain ⟨b4, e4⟩ : ∃ b, (D.toList == [60]) = b := ⟨_, rfl⟩
    have HB : Hid (b4 = decide (fd f ls 4 = [60]) ∧ b1 = decide (fd f ls 4 = dgL (fd f ls 3)) ∧ b2 = decide (fd f ls 7 = dgL (fd f ls 6)) ∧ b3 = decide (fd f ls 10 = dgL (fd f ls 9))) := Lib.hid ⟨by rw [← e4, is60 _ D HW.out.d], by rw [← hb1]; exact right_dg _ _ (fd_valid HP.out.2.2 hf HP.out.2.1 (by decide)) (by rw [HSL.out.1 4 (by decide)]; exact HSL.out.2.2.2.2.2.1), by rw [← hb2]; exact right_dg _ _ (fd_valid HP.out.2.2 hf HP.out.2.1 (by decide)) (by rw [HSL.out.1 7 (by decide)]; exact HSL.out.2.2.2.2.2.2.2.2.1), by rw [← hb3]; exact right_dg _ _ (fd_valid HP.out.2.2 hf HP.out.2.1 (by decide)) (by rw [HSL.out.1 10 (by decide)]; exact HSL.out.2.2.2.2.2.2.2.2.2.2.2.1)⟩
    have HE13 : Hid (digsB f (fd f ls) = false → parE ls = 13 ∧ zV (parZ ls) = zon0) := Lib.hid (fun h => par_dig HP.out.1 (by omega) HP.out.2.1 (.inl h))
    have q1 := HO.out.qup fun w' _ => HR1.out b1 hb1 w'
    have q2 := HO.out.qup fun w' _ => HR2.out b2 hb2 w'
    have q3 := HO.out.qup fun w' _ => HR3.out b3 hb3 w'
    have k7 := (HO.out.row (i := 1) rfl).quiet (k := 7) rfl
    have k9 := (HO.out.row (i := 1) rfl).quiet (k := 9) rfl
    have k10 := (HO.out.row (i := 1) rfl).quiet (k := 10) rfl
    clear hb1 hb2 hb3 HR1 HR2 HR3
    have HD : Hid (dg1 (fd f ls) = (b4 || b1) ∧ dg2 (fd f ls) = (b2 && b3)) := Lib.hid ⟨by unfold dg1; rw [Bool.decide_or, ← HB.out.1, ← HB.out.2.1], by unfold dg2; rw [Bool.decide_and, ← HB.out.2.2.1, ← HB.out.2.2.2]⟩
    have HB4 := Lib.hid HB.out.1
    clear HB
    generalize hB7 : cB (fd f ls 7) 0 = y7 at *
    generalize hB10 : cB (fd f ls 10) 0 = y10 at *
    generalize hB4 : cB (fd f ls 4) 0 = y4 at *
    clear hB7 hB10 hB4
    go_upto_region 23 with fail
    go_cut [172] from 148 to 171 (fun v172 wx => ∃ bd : Bool, v172 = .bool bd ∧ Hid (bd = !(dg1 (fd f ls) && dg2 (fd f ls))) ∧ Hid (Own w wx [(g2, zon0), (g8, [.int .i64 f, .string KD, .string ST, .string ⟨#[]⟩, .string ⟨#[]⟩, .string TN, .string NA, .string (S (fd f ls 6)), .string (S (fd f ls 8)), .string (S (fd f ls 9)), .string TO, .string SE])]))
    case first =>
     rcases b4 with _ | _
     ·
      rcases b1 with _ | _
      · refine wp_region_quiet_below (by as_aux_lemma => kernel_rfl) (by as_aux_lemma => kernel_rfl) ?_
        repeat (first | go_big_quiet_skip | (go_big_quiet_want; go_big_quiet_op; go_big_quiet_on) | quiet_step (first | with_reducible exact q1 _ _ | with_reducible exact q2 _ _ | with_reducible exact q3 _ _))
        refine wpQuiet_nil ?_
        intro w4 hw4
        replace HO := Lib.hid (HO.out.on (below_of_regrown hw4))
        clear hw4
        clear q1 q2 q3 k7 k9
        go_wp2_with fail
        go_meet
        exact ⟨_, rfl, Lib.hid (by rw [HD.out.1, HD.out.2]; rfl), HO⟩
      ·
       rcases b2 with _ | _
       · refine wp_region_quiet_below (by as_aux_lemma => kernel_rfl) (by as_aux_lemma => kernel_rfl) ?_
         repeat (first | go_big_quiet_skip | (go_big_quiet_want; go_big_quiet_op; go_big_quiet_on) | quiet_step (first | with_reducible exact q1 _ _ | with_reducible exact q2 _ _ | with_reducible exact q3 _ _))
         refine wpQuiet_nil ?_
         intro w4 hw4
         replace HO := Lib.hid (HO.out.on (below_of_regrown hw4))
         clear hw4
         clear q1 q2 q3 k7 k9
         go_wp2_with fail
         go_meet
         exact ⟨_, rfl, Lib.hid (by rw [HD.out.1, HD.out.2]; rfl), HO⟩
       ·
        rcases b3 with _ | _
        · refine wp_region_quiet_below (by as_aux_lemma => kernel_rfl) (by as_aux_lemma => kernel_rfl) ?_
          repeat (first | go_big_quiet_skip | (go_big_quiet_want; go_big_quiet_op; go_big_quiet_on) | quiet_step (first | with_reducible exact q1 _ _ | with_reducible exact q2 _ _ | with_reducible exact q3 _ _))
          refine wpQuiet_nil ?_
          intro w4 hw4
          replace HO := Lib.hid (HO.out.on (below_of_regrown hw4))
          clear hw4
          clear q1 q2 q3 k7 k9
          go_wp2_with fail
          go_meet
          exact ⟨_, rfl, Lib.hid (by rw [HD.out.1, HD.out.2]; rfl), HO⟩
        · refine wp_region_quiet_below (by as_aux_lemma => kernel_rfl) (by as_aux_lemma => kernel_rfl) ?_
          repeat (first | go_big_quiet_skip | (go_big_quiet_want; go_big_quiet_op; go_big_quiet_on) | quiet_step (first | with_reducible exact q1 _ _ | with_reducible exact q2 _ _ | with_reducible exact q3 _ _))
          refine wpQuiet_nil ?_
          intro w4 hw4
          replace HO := Lib.hid (HO.out.on (below_of_regrown hw4))
          clear hw4
          clear q1 q2 q3 k7 k9
          go_wp2_with fail
          go_meet
          exact ⟨_, rfl, Lib.hid (by rw [HD.out.1, HD.out.2]; rfl), HO⟩
     ·
      rcases b2 with _ | _
      · refine wp_region_quiet_below (by as_aux_lemma => kernel_rfl) (by as_aux_lemma => kernel_rfl) ?_
        repeat (first | go_big_quiet_skip | (go_big_quiet_want; go_big_quiet_op; go_big_quiet_on) | quiet_step (first | with_reducible exact q1 _ _ | with_reducible exact q2 _ _ | with_reducible exact q3 _ _))
        refine wpQuiet_nil ?_
        intro w4 hw4
        replace HO := Lib.hid (HO.out.on (below_of_regrown hw4))
        clear hw4
        clear q1 q2 q3 k7 k9
        go_wp2_with fail
        go_meet
        exact ⟨_, rfl, Lib.hid (by rw [HD.out.1, HD.out.2]; rfl), HO⟩
      ·
       rcases b3 with _ | _
       · refine wp_region_quiet_below (by as_aux_lemma => kernel_rfl) (by as_aux_lemma => kernel_rfl) ?_
         repeat (first | go_big_quiet_skip | (go_big_quiet_want; go_big_quiet_op; go_big_quiet_on) | quiet_step (first | with_reducible exact q1 _ _ | with_reducible exact q2 _ _ | with_reducible exact q3 _ _))
         refine wpQuiet_nil ?_
         intro w4 hw4
         replace HO := Lib.hid (HO.out.on (below_of_regrown hw4))
         clear hw4
         clear q1 q2 q3 k7 k9
         go_wp2_with fail
         go_meet
         exact ⟨_, rfl, Lib.hid (by rw [HD.out.1, HD.out.2]; rfl), HO⟩
       · refine wp_region_quiet_below (by as_aux_lemma => kernel_rfl) (by as_aux_lemma => kernel_rfl) ?_
         repeat (first | go_big_quiet_skip | (go_big_quiet_want; go_big_quiet_op; go_big_quiet_on) | quiet_step (first | with_reducible exact q1 _ _ | with_reducible exact q2 _ _ | with_reducible exact q3 _ _))
         refine wpQuiet_nil ?_
         intro w4 hw4
         replace HO := Lib.hid (HO.out.on (below_of_regrown hw4))
         clear hw4
         clear q1 q2 q3 k7 k9
         go_wp2_with fail
         go_meet
         exact ⟨_, rfl, Lib.hid (by rw [HD.out.1, HD.out.2]; rfl), HO⟩
    case rest =>
     clear HO q1 q2 q3 k7 k9 i0 i6 i14
     obtain ⟨bd, rfl, HBD, HO⟩ := hcut
     rcases Bool.eq_false_or_eq_true bd with rfl | rfl
     · have HE : Hid (parE ls = 13 ∧ zV (parZ ls) = zon0) := Lib.hid (HE13.out (by
        have h := HBD.out
        unfold digsB
        revert h
        cases dg1 (fd f ls) <;> cases dg2 (fd f ls) <;> simp))
       go_wp2_with ((with_reducible refine at_store_ (i := 2) ?_); refine wpList_store_v rfl 44 (.tmp 2) (.tmp 173) rfl g2 zon0 zon0 rfl rfl (HO.out.row (i := 0) rfl) rfl (zV_one _) size_z ?_; intro v2s hw hr; replace HO := Lib.hid (HO.out.set (i := 0) rfl hw hr); clear hw hr)
       exact bodyPost_ret (results_v1 rfl _ _ g2 zon0 _ rfl (HO.out.row (i := 0) rfl) Tryz.underlying44 rfl size_z) rfl ⟨by rw [HE.out.2, HE.out.1]; rfl, HO.out.bl⟩
     have HG : Hid (dg1 (fd f ls) = true ∧ dg2 (fd f ls) = true) := Lib.hid (by
      have h := HBD.out
      revert h
      cases dg1 (fd f ls) <;> cases dg2 (fd f ls) <;> simp)
     clear HBD HD
     go_upto_region 25 with fail
     go_cut [193] from 174 to 192 (fun v193 wx => ∃ bd : Bool, v193 = .bool bd ∧ Hid (bd = !(dg3 f (fd f ls))) ∧ Hid (Own w wx [(g2, zon0), (g8, [.int .i64 f, .string KD, .string ST, .string ⟨#[]⟩, .string ⟨#[]⟩, .string TN, .string NA, .string (S (fd f ls 6)), .string (S (fd f ls 8)), .string (S (fd f ls 9)), .string TO, .string SE])]))
     case first =>
      by_cases h3 : f = 3
      ·
       subst h3
       obtain ⟨y12, hy12⟩ : ∃ y, cB (fd 3 ls 12) 0 = y := ⟨_, rfl⟩
       have l12 : (fd 3 ls 12).length = 1 := HSL.out.1 12 (by decide)
       have i42 : ∀ w, (Instr.index 9 (.string X1) (.int .i64 42)).run Tryz.prog w = .ok (.int .u8 y12) w := fun w => ix_at (k := 42) HXX.out.2.symm (by rw [HZW.out.2]; decide) (by rw [← hy12]; show _ = cB (((ls.getD 1 []).drop 42).take 1) 0; rw [cB_take (by decide), cB_drop]) w
       obtain ⟨b5, hb5⟩ : ∃ b, rightB (fd 3 ls 11) y12 = b := ⟨_, rfl⟩
       obtain ⟨bT, hbT⟩ : ∃ b, TO.toList.isEmpty = b := ⟨_, rfl⟩
       obtain ⟨b6, hb6⟩ : ∃ b, (y12 == 60) = b := ⟨_, rfl⟩
       have HR4 : Hid (∀ w, Calls Tryz.prog 53 #[.string O, .int .u8 y12] w fun e w' => e = .returned (.bool b5) ∧ Below w.heap.size w w') := Lib.hid (fun w => by rw [HW.out.o]; exact r_right _ _ b5 hb5 w (by rw [← HW.out.o]; omega))
       have HD3 : Hid (dg3 3 (fd 3 ls) = (b5 || (bT && b6))) := Lib.hid (by
        unfold dg3
        have e1 : b5 = decide (fd 3 ls 12 = dgL (fd 3 ls 11)) := by rw [← hb5, ← hy12]; exact right_dg _ _ (fd_valid HP.out.2.2 hf HP.out.2.1 (by decide)) l12
        have e2 : bT = decide (trimT (fd 3 ls 11) = []) := by rw [← hbT]; exact empty_b HTT.out.2.symm
        have e3 : b6 = decide (fd 3 ls 12 = [60]) := by rw [← hb6, ← hy12]; exact one_60 l12
        rw [Bool.decide_or, Bool.decide_or, Bool.decide_and, ← e1, ← e2, ← e3]; rfl)
       have HBT := Lib.hid hbT
       clear hb5 hy12 l12
       have c10 : World.cell? _ ⟨g8, 10, none⟩ = some (.string TO) := (HO.out.row (i := 1) rfl).cell 10
       rcases b5 with _ | _
       · rcases bT with _ | _
         · go_wp2_with (go_at_call 53; ((with_reducible refine (HR4.out _).mono ?_); rintro e w9 ⟨rfl, hb⟩); replace HO := Lib.hid (HO.out.on hb); clear hb; have c10 : World.cell? _ ⟨g8, 10, none⟩ = some (.string TO) := (HO.out.row (i := 1) rfl).cell 10)
           go_meet
           exact ⟨_, rfl, Lib.hid (by rw [HD3.out]; rfl), HO⟩
         · rcases b6 with _ | _
           · go_wp2_with (go_at_call 53; ((with_reducible refine (HR4.out _).mono ?_); rintro e w9 ⟨rfl, hb⟩); replace HO := Lib.hid (HO.out.on hb); clear hb; have c10 : World.cell? _ ⟨g8, 10, none⟩ = some (.string TO) := (HO.out.row (i := 1) rfl).cell 10)
             go_meet
             exact ⟨_, rfl, Lib.hid (by rw [HD3.out]; rfl), HO⟩
           · go_wp2_with (go_at_call 53; ((with_reducible refine (HR4.out _).mono ?_); rintro e w9 ⟨rfl, hb⟩); replace HO := Lib.hid (HO.out.on hb); clear hb; have c10 : World.cell? _ ⟨g8, 10, none⟩ = some (.string TO) := (HO.out.row (i := 1) rfl).cell 10)
             go_meet
             exact ⟨_, rfl, Lib.hid (by rw [HD3.out]; rfl), HO⟩
       · go_wp2_with (go_at_call 53; ((with_reducible refine (HR4.out _).mono ?_); rintro e w9 ⟨rfl, hb⟩); replace HO := Lib.hid (HO.out.on hb); clear hb; have c10 : World.cell? _ ⟨g8, 10, none⟩ = some (.string TO) := (HO.out.row (i := 1) rfl).cell 10)
         go_meet
         exact ⟨_, rfl, Lib.hid (by rw [HD3.out]; rfl), HO⟩
      · have hb3 : (f == 3) = false := by simp; omega
        go_wp2_with fail
        go_meet
        exact ⟨false, rfl, Lib.hid (by unfold dg3; rw [decide_eq_true (.inl h3)]; rfl), HO⟩
     case rest =>
      clear HO
      obtain ⟨bd, rfl, HBD, HO⟩ := hcut
      rcases Bool.eq_false_or_eq_true bd with rfl | rfl
      · have HE : Hid (parE ls = 13 ∧ zV (parZ ls) = zon0) := Lib.hid (HE13.out (by
         have h := HBD.out
         unfold digsB
         revert h
         cases dg3 f (fd f ls) <;> simp))
        go_wp2_with ((with_reducible refine at_store_ (i := 2) ?_); refine wpList_store_v rfl 44 (.tmp 2) (.tmp 194) rfl g2 zon0 zon0 rfl rfl (HO.out.row (i := 0) rfl) rfl (zV_one _) size_z ?_; intro v2s hw hr; replace HO := Lib.hid (HO.out.set (i := 0) rfl hw hr); clear hw hr)
        exact bodyPost_ret (results_v1 rfl _ _ g2 zon0 _ rfl (HO.out.row (i := 0) rfl) Tryz.underlying44 rfl size_z) rfl ⟨by rw [HE.out.2, HE.out.1]; rfl, HO.out.bl⟩
      have HDG : Hid (digsB f (fd f ls) = true) := Lib.hid (by
       have h := HBD.out
       unfold digsB
       rw [HG.out.1, HG.out.2]
       revert h
       cases dg3 f (fd f ls) <;> simp)
      clear HBD HG HE13
      obtain ⟨y14, hy14⟩ : ∃ y, cB (fd f ls 14) 0 = y := ⟨_, rfl⟩
      have i27 : ∀ w, (Instr.index 9 (.string X1) (.int .i64 ((X1.size : Int) - 1))).run Tryz.prog w = .ok (.int .u8 y14) w := fun w => by
       rw [show ((X1.size : Int) - 1) = ((X1.size - 1 : Nat) : Int) by omega]
       exact ix_at HXX.out.2.symm (by omega) (by rw [← hy14, fd14 hf, HZW.out.2]) w
      obtain ⟨ba, hba⟩ : ∃ b, rightB (cmpT f ls) y14 = b := ⟨_, rfl⟩
      have HRA : Hid (∀ w, Calls Tryz.prog 53 #[.string AL, .int .u8 y14] w fun e w' => e = .returned (.bool ba) ∧ Below w.heap.size w w') := Lib.hid (fun w => by rw [HW.out.al]; exact r_right _ _ ba hba w (by rw [← HW.out.al]; omega))
      have HBA : Hid (ba = decide (fd f ls 14 = dgL (cmpT f ls))) := Lib.hid (by rw [← hba, ← hy14]; exact right_dg _ _ (cmp_valid HP.out.2.2 hf HP.out.2.1) (by rw [HSL.out.1 14 (by decide)]; exact HSL.out.2.2.2.2.2.2.2.2.2.2.2.2.2.2.2))
      clear hba hy14
      rcases (Bool.eq_false_or_eq_true ba).symm with rfl | rfl
      · have HE : Hid (parE ls = 13 ∧ zV (parZ ls) = zon0) := Lib.hid (par_dig HP.out.1 (by omega) HP.out.2.1 (.inr (of_decide_eq_false HBA.out.symm)))
        go_wp2_with (first
         | (go_at_call 53; ((with_reducible refine (HRA.out _).mono ?_); rintro e w9 ⟨rfl, hb⟩); replace HO := Lib.hid (HO.out.on hb); clear hb)
         | ((with_reducible refine at_store_ (i := 2) ?_); refine wpList_store_v rfl 44 (.tmp 2) (.tmp 204) rfl g2 zon0 zon0 rfl rfl (HO.out.row (i := 0) rfl) rfl (zV_one _) size_z ?_; intro v2s hw hr; replace HO := Lib.hid (HO.out.set (i := 0) rfl hw hr); clear hw hr))
        exact bodyPost_ret (results_v1 rfl _ _ g2 zon0 _ rfl (HO.out.row (i := 0) rfl) Tryz.underlying44 rfl size_z) rfl ⟨by rw [HE.out.2, HE.out.1]; rfl, HO.out.bl⟩
      have HCM : Hid (fd f ls 14 = dgL (cmpT f ls)) := Lib.hid (of_decide_eq_true HBA.out.symm)
      go_upto_if 206 with (go_at_call 53; ((with_reducible refine (HRA.out _).mono ?_); rintro e w9 ⟨rfl, hb⟩); replace HO := Lib.hid (HO.out.on hb); clear hb)
      try rw [e4]
      clear i27 HBA HRA
      go_cut [16] from 207 to 252 (fun v16 wx => ∃ NU OP : ByteArray, Hid (NU = S (jnN (fd f ls)) ∧ OP = S (jnO (fd f ls)) ∧ ¬ (fd f ls 4 = [60] ∧ f = 3) ∧ jnE (fd f ls) = 0) ∧ Hid (Own w wx [(g2, zon0), (g8, [.int .i64 f, .string KD, .string ST, .string ⟨#[]⟩, .string ⟨#[]⟩, .string NU, .string NA, .string (S (fd f ls 6)), .string (S (fd f ls 8)), .string (S (fd f ls 9)), .string OP, .string SE])]))
      case first =>
       rcases (Bool.eq_false_or_eq_true b4).symm with rfl | rfl
       · go_wp2_with fail
         go_meet
         have h4 := of_decide_eq_false HB4.out.symm
         exact ⟨TN, TO, Lib.hid ⟨by rw [← HTT.out.1]; unfold jnN jN; rw [if_pos h4], by rw [← HTT.out.2]; unfold jnO jO; rw [if_pos h4], fun h => h4 h.1, by unfold jnE jE; rw [if_pos h4]⟩, HO⟩
       have H4 : Hid (fd f ls 4 = [60]) := Lib.hid (of_decide_eq_true HB4.out.symm)
       clear HB4
       have sO11 : (fd f ls 11).length = O.size := by rw [HW.out.o, S_size]
       have HSO := Lib.hid sO11
       clear sO11
       go_upto_block 3 with fail
       go_cut [16] from 207 to 218 (fun v16 wx => v16 = .int .i64 ((kf (fd f ls 11) : Nat) : Int) ∧ Hid (Own w wx [(g2, zon0), (g8, [.int .i64 f, .string KD, .string ST, .string ⟨#[]⟩, .string ⟨#[]⟩, .string TN, .string NA, .string (S (fd f ls 6)), .string (S (fd f ls 8)), .string (S (fd f ls 9)), .string TO, .string SE])]))
       case first =>
        go_wp2_with fail
        go_loopw [16] (fun i wr => ∃ j : Nat, j ≤ O.size ∧ i = .int .i64 (j : Int) ∧ Hid ((∀ i, i < j → cB (fd f ls 11) i ≠ 60) ∧ Own w wr [(g2, zon0), (g8, [.int .i64 f, .string KD, .string ST, .string ⟨#[]⟩, .string ⟨#[]⟩, .string TN, .string NA, .string (S (fd f ls 6)), .string (S (fd f ls 8)), .string (S (fd f ls 9)), .string TO, .string SE])])) (fun i _ => O.size - (intOf i).toNat)
        case atStart => exact ⟨0, by omega, rfl, Lib.hid ⟨fun i hi => by omega, HO.out⟩⟩
        case round =>
         clear HO
         obtain ⟨j3, hj3, rfl, HR⟩ := hrel
         have HO := Lib.hid HR.out.2
         by_cases hlt : j3 < O.size
         ·
          have hb : decide ((j3 : Int) < (O.size : Int)) = true := by simp; omega
          obtain ⟨y, hy⟩ : ∃ y, cB (fd f ls 11) j3 = y := ⟨_, rfl⟩
          have ij : ∀ w, (Instr.index 9 (.string O) (.int .i64 (j3 : Int))).run Tryz.prog w = .ok (.int .u8 y) w := fun w => ix_at HW.out.o hlt hy w
          by_cases h6 : y = 60
          · have hb6 : (y != 60) = false := by rw [h6]; rfl
            have HK : Hid (kf (fd f ls 11) = j3) := Lib.hid (kf_is (by have := HSO.out; omega) HR.out.1 (fun _ => hy.trans h6))
            clear hy h6
            go_wp2_with fail
            go_meet
            exact ⟨by rw [HK.out], HO⟩
          · have hb6 : (y != 60) = true := by simpa using h6
            have HY := Lib.hid (And.intro hy h6)
            clear hy h6
            go_wp2_with fail
            go_roundw
            case rel => exact ⟨j3 + 1, by omega, by go_num, Lib.hid ⟨fun i hi => by
             by_cases e : i = j3
             · rw [e, HY.out.1]; exact HY.out.2
             · exact HR.out.1 i (by omega), HO.out⟩⟩
            case measure => simp [intOf]; omega
         · have hb : decide ((j3 : Int) < (O.size : Int)) = false := by simp; omega
           have HK : Hid (kf (fd f ls 11) = j3) := Lib.hid (kf_is (by have := HSO.out; omega) HR.out.1 (fun h => by have := HSO.out; omega))
           go_wp2_with fail
           go_meet
           exact ⟨by rw [HK.out], HO⟩
       case rest =>
        clear HO
        obtain ⟨rfl, HO⟩ := hcut
        obtain ⟨k, hk⟩ : ∃ k, kf (fd f ls 11) = k := ⟨_, rfl⟩
        rw [hk]
        have hkO : k ≤ O.size := by rw [← hk, ← HSO.out]; exact kf_le _
        have HK := Lib.hid hk
        clear hk
        have HZ1 : Hid (∀ e, zoE f (fd f ls) = e → e ≠ 0 → parE ls = e ∧ zV (parZ ls) = zon0) := Lib.hid (fun e he hne => par_zo HP.out.1 (by omega) HP.out.2.1 HDG.out HCM.out he hne)
        by_cases h3 : f = 3
        · have hb : (f == 3) = true := by simp; omega
          have HE : Hid (parE ls = 1 ∧ zV (parZ ls) = zon0) := Lib.hid (HZ1.out 1 (by unfold zoE; rw [if_pos ⟨H4.out, h3⟩]) (by decide))
          go_wp2_with ((with_reducible refine at_store_ (i := 2) ?_); refine wpList_store_v rfl 44 (.tmp 2) (.tmp 231) rfl g2 zon0 zon0 rfl rfl (HO.out.row (i := 0) rfl) rfl (zV_one _) size_z ?_; intro v2s hw hr; replace HO := Lib.hid (HO.out.set (i := 0) rfl hw hr); clear hw hr)
          exact bodyPost_ret (results_v1 rfl _ _ g2 zon0 _ rfl (HO.out.row (i := 0) rfl) Tryz.underlying44 rfl size_z) rfl ⟨by rw [HE.out.2, HE.out.1]; rfl, HO.out.bl⟩
        have hb : (f == 3) = false := by simp; omega
        have HN3 : Hid (¬ (fd f ls 4 = [60] ∧ f = 3)) := Lib.hid (fun h => h3 h.2)
        have HJE : Hid (∀ e, jnE (fd f ls) = e → e ≠ 0 → zoE f (fd f ls) = e) := Lib.hid (fun e he hne => by unfold zoE; rw [if_neg HN3.out, he, if_pos hne])
        have HJ1 : Hid ((k = O.size ∨ k < 2) → jnE (fd f ls) = 1) := Lib.hid (fun h => by unfold jnE jE; rw [if_neg (fun h => h H4.out), HK.out, if_pos (by rw [HSO.out]; exact h)])
        by_cases h2 : k < 2
        · have hb2 : decide ((k : Int) < 2) = true := by simp; omega
          have HE : Hid (parE ls = 1 ∧ zV (parZ ls) = zon0) := Lib.hid (HZ1.out 1 (HJE.out 1 (HJ1.out (.inr h2)) (by decide)) (by decide))
          go_wp2_with ((with_reducible refine at_store_ (i := 2) ?_); refine wpList_store_v rfl 44 (.tmp 2) (.tmp 231) rfl g2 zon0 zon0 rfl rfl (HO.out.row (i := 0) rfl) rfl (zV_one _) size_z ?_; intro v2s hw hr; replace HO := Lib.hid (HO.out.set (i := 0) rfl hw hr); clear hw hr)
          exact bodyPost_ret (results_v1 rfl _ _ g2 zon0 _ rfl (HO.out.row (i := 0) rfl) Tryz.underlying44 rfl size_z) rfl ⟨by rw [HE.out.2, HE.out.1]; rfl, HO.out.bl⟩
        have hb2 : decide ((k : Int) < 2) = false := by simp; omega
        by_cases hl : k = O.size
        · have hb4 : ((k : Int) == (O.size : Int)) = true := by simp; omega
          have HE : Hid (parE ls = 1 ∧ zV (parZ ls) = zon0) := Lib.hid (HZ1.out 1 (HJE.out 1 (HJ1.out (.inl hl)) (by decide)) (by decide))
          go_wp2_with ((with_reducible refine at_store_ (i := 2) ?_); refine wpList_store_v rfl 44 (.tmp 2) (.tmp 231) rfl g2 zon0 zon0 rfl rfl (HO.out.row (i := 0) rfl) rfl (zV_one _) size_z ?_; intro v2s hw hr; replace HO := Lib.hid (HO.out.set (i := 0) rfl hw hr); clear hw hr)
          exact bodyPost_ret (results_v1 rfl _ _ g2 zon0 _ rfl (HO.out.row (i := 0) rfl) Tryz.underlying44 rfl size_z) rfl ⟨by rw [HE.out.2, HE.out.1]; rfl, HO.out.bl⟩
        have hb4 : ((k : Int) == (O.size : Int)) = false := by simp; omega
        have hkl : k < O.size := by omega
        have hO2 : O.extract (k + 1) O.size = S ((fd f ls 11).drop (k + 1)) := by
         rw [HW.out.o, S_extract, S_size, List.take_of_length_le (by rw [List.length_drop]; omega)]
        have hO1 : N ++ O.extract 0 (k - 1) = S (fd f ls 3 ++ (fd f ls 11).take (k - 1)) := by
         rw [HW.out.n, HW.out.o, S_extract, S_append]; rfl
        obtain ⟨NU, hNU⟩ : ∃ X, N ++ O.extract 0 (k - 1) = X := ⟨_, rfl⟩
        obtain ⟨TR, hTR⟩ : ∃ X, S (trimT ((fd f ls 11).drop (k + 1))) = X := ⟨_, rfl⟩
        have HTTR : Hid (∀ w, Calls Tryz.prog 52 #[.string (O.extract (k + 1) O.size)] w fun e w' => e = .returned (.string TR) ∧ Below w.heap.size w w') := Lib.hid (fun w => by rw [← hTR]; exact trm_b _ _ hO2 (by rw [ByteArray.size_extract]; omega) w)
        have HNU := Lib.hid (show _ ∧ _ ∧ _ from ⟨hNU.symm.trans hO1, hTR, hNU⟩)
        have hk2 : 2 ≤ k := by omega
        clear hO2 hO1 hNU hTR h2 hl h3 HJ1
        go_wp2_with fail
        refine region_setC2 (by as_aux_lemma => kernel_rfl) _ (fun (_ : Unit) i => ([.string N, .string O, .int .i64 (k : Int), .int .i64 ((k - 1 : Nat) : Int), .string (O.extract 0 (k - 1)), .string NU, .string O, .int .i64 (k : Int), .int .i64 ((k + 1 : Nat) : Int), .string (O.extract (k + 1) O.size), .string TR, .pointer (some ⟨g8, 5, none⟩), undef, .pointer (some ⟨g8, 10, none⟩), undef] : List Value).getD i undef) (fun _ Sx cur => Own w cur [(g2, zon0), (g8, [.int .i64 f, .string KD, .string ST, .string ⟨#[]⟩, .string ⟨#[]⟩, if Sx 12 = true then .string NU else .string TN, .string NA, .string (S (fd f ls 6)), .string (S (fd f ls 8)), .string (S (fd f ls 9)), if Sx 14 = true then .string TR else .string TO, .string SE])]) (by kernel_rfl) () (by simp only [Bool.false_eq_true, ite_false]; exact HO.out.on (below_drewN _ _ 1)) ?_ ?_
        ·
         refine ops_all (allI.cons ?_ (allI.cons ?_ (allI.cons ?_ (allI.cons ?_ (allI.cons ?_ (allI.cons ?_ (allI.cons ?_ (allI.cons ?_ (allI.cons ?_ (allI.cons ?_ (allI.cons ?_ (allI.cons ?_ (allI.cons ?_ (allI.cons ?_ (allI.cons ?_ allI.nil))))))))))))))) <;> intro _ S cur a hW hSi hdep hS hC <;> refine ⟨(), fun _ _ => rfl, ?_⟩
         · exact o_mv (.tmp 9) rfl (hS.before hC hSi 9 rfl) ⟨rfl, by simpa using hW⟩
         · exact o_mv (.tmp 12) rfl (hS.before hC hSi 12 rfl) ⟨rfl, by simpa using hW⟩
         · exact o_mv (.tmp 16) rfl (hS.before hC hSi 16 rfl) ⟨rfl, by simpa using hW⟩
         · exact o_sub _ _ (.tmp 234) (.const (.int .i64 1)) rfl (hS.get 2 (dep_at hdep 2 rfl) rfl rfl) rfl (sub_one k (by omega) (by omega) _ _ _) ⟨rfl, by simpa using hW⟩
         · exact o_sl _ (.tmp 233) none (some (.tmp 235)) none rfl (hS.get 1 (dep_at hdep 1 rfl) rfl rfl) rfl (by rw [Option.map_some, hS.get 3 (dep_at hdep 3 rfl) rfl rfl]; rfl) rfl (sl_h O (k - 1) (by omega) _) ⟨rfl, by simpa using hW⟩
         · exact o_add _ _ (.tmp 232) (.tmp 236) rfl (hS.get 0 (dep_at hdep 0 rfl) rfl rfl) (hS.get 4 (dep_at hdep 4 rfl) rfl rfl) (by rw [← HNU.out.2.2]; exact add_str _ _ (by simp only [ByteArray.size_extract]; omega) _ _ _) ⟨rfl, by simpa using hW⟩
         · exact o_mv (.tmp 12) rfl (hS.before hC hSi 12 rfl) ⟨rfl, by simpa using hW⟩
         · exact o_mv (.tmp 16) rfl (hS.before hC hSi 16 rfl) ⟨rfl, by simpa using hW⟩
         · exact o_add _ _ (.tmp 239) (.const (.int .i64 1)) rfl (hS.get 7 (dep_at hdep 7 rfl) rfl rfl) rfl (add_one k (by omega) _ _ _) ⟨rfl, by simpa using hW⟩
         · exact o_sl _ (.tmp 238) (some (.tmp 240)) none none rfl (hS.get 6 (dep_at hdep 6 rfl) rfl rfl) (by rw [Option.map_some, hS.get 8 (dep_at hdep 8 rfl) rfl rfl]; rfl) rfl rfl (sl_l O (k + 1) (by omega) _) ⟨rfl, by simpa using hW⟩
         · exact o_call1 _ (.tmp 241) _ rfl (hS.get 9 (dep_at hdep 9 rfl) rfl rfl) (run_trm _ _) (HTTR.out _) fun w' hb => ⟨rfl, by simpa using hW.on hb⟩
         · exact o_fa _ (.tmp 8) 5 rfl (hS.before hC hSi 8 rfl) (fa_z5 g8 _) ⟨rfl, by simpa using hW⟩
         · rw [hSi] at hW
           refine wp_store_at 9 (.tmp 243) (.tmp 237) rfl g8 5 _ (.string NU) (hS.get 11 (dep_at hdep 11 rfl) rfl rfl) (hS.get 5 (dep_at hdep 5 rfl) rfl rfl) (hW.row (i := 1) rfl) (by simp) rfl rfl size_st ?_
           intro w' hw hr
           exact ⟨rfl, by simpa using hW.set (i := 1) rfl hw hr⟩
         · exact o_fa _ (.tmp 8) 10 rfl (hS.before hC hSi 8 rfl) (fa_z10 g8 _) ⟨rfl, by simpa using hW⟩
         · rw [hSi] at hW
           refine wp_store_at 9 (.tmp 244) (.tmp 242) rfl g8 10 _ (.string TR) (hS.get 13 (dep_at hdep 13 rfl) rfl rfl) (hS.get 10 (dep_at hdep 10 rfl) rfl rfl) (hW.row (i := 1) rfl) (by simp) rfl rfl size_st ?_
           intro w' hw hr
           exact ⟨rfl, by simpa using hW.set (i := 1) rfl hw hr⟩
        intro _ cur SS hall hW
        rw [hall 12 (by decide), hall 14 (by decide)] at hW
        replace HO : Hid (Own w cur [(g2, zon0), (g8, [.int .i64 f, .string KD, .string ST, .string ⟨#[]⟩, .string ⟨#[]⟩, .string NU, .string NA, .string (S (fd f ls 6)), .string (S (fd f ls 8)), .string (S (fd f ls 9)), .string TR, .string SE])]) := Lib.hid hW
        clear hW hall SS HTTR
        simp only [putAll, Act.put]
        simp
        go_wp2_with fail
        obtain ⟨yk, hyk⟩ : ∃ y, cB (((fd f ls 11).drop (k - 1)).take 1) 0 = y := ⟨_, rfl⟩
        have ik : ∀ w, (Instr.index 9 (.string O) (.int .i64 ((k : Int) - 1))).run Tryz.prog w = .ok (.int .u8 yk) w := fun w => by
         rw [show ((k : Int) - 1) = ((k - 1 : Nat) : Int) by omega]
         exact ix_at HW.out.o (by omega) (by rw [← hyk, cB_take (by decide), cB_drop]; rfl) w
        obtain ⟨bn, hbn⟩ : ∃ b, rightB (fd f ls 3 ++ (fd f ls 11).take (k - 1)) yk = b := ⟨_, rfl⟩
        have HRN : Hid (∀ w, Calls Tryz.prog 53 #[.string NU, .int .u8 yk] w fun e w' => e = .returned (.bool bn) ∧ Below w.heap.size w w') := Lib.hid (fun w => by rw [HNU.out.1]; exact r_right _ _ bn hbn w (by rw [S_size, List.length_append, List.length_take, HSL.out.1 3 (by decide), HSO.out]; have := siz_le hf (k := 3) (by decide); omega))
        have HBN : Hid (bn = decide (((fd f ls 11).drop (k - 1)).take 1 = dgL (fd f ls 3 ++ (fd f ls 11).take (k - 1)))) := Lib.hid (by
         rw [← hbn, ← hyk]
         refine right_dg _ _ ?_ ?_
         · rw [val_app, fd_valid HP.out.2.2 hf HP.out.2.1 (by decide), val_sub (fd_valid HP.out.2.2 hf HP.out.2.1 (show 11 < 15 by decide)) (fun b hb => List.mem_of_mem_take hb)]; rfl
         · rw [List.length_take, List.length_drop, HSO.out]; omega)
        have HJN : Hid (jnE (fd f ls) = if ((fd f ls 11).drop (k - 1)).take 1 ≠ dgL (fd f ls 3 ++ (fd f ls 11).take (k - 1)) then 13 else 0) := Lib.hid (by
         unfold jnE jE
         rw [if_neg (fun h => h H4.out), HK.out, if_neg (by rw [HSO.out]; omega)])
        clear hyk hbn
        have q4 := HO.out.qup fun w' _ => HRN.out w'
        have k5 := (HO.out.row (i := 1) rfl).quiet (k := 5) rfl
        rcases bn with _ | _
        · have HE : Hid (parE ls = 13 ∧ zV (parZ ls) = zon0) := Lib.hid (HZ1.out 13 (HJE.out 13 (by rw [HJN.out, if_pos (of_decide_eq_false HBN.out.symm)]) (by decide)) (by decide))
          refine wp_region_quiet_below (by as_aux_lemma => kernel_rfl) (by as_aux_lemma => kernel_rfl) ?_
          repeat (first | go_big_quiet_skip | (go_big_quiet_want; go_big_quiet_op; go_big_quiet_on) | quiet_step (with_reducible exact q4 _ _))
          refine wpQuiet_nil ?_
          intro w5 hw4
          replace HO := Lib.hid (HO.out.on (below_of_regrown hw4))
          clear hw4
          clear q4 k5
          go_wp2_with ((with_reducible refine at_store_ (i := 2) ?_); refine wpList_store_v rfl 44 (.tmp 2) (.tmp 253) rfl g2 zon0 zon0 rfl rfl (HO.out.row (i := 0) rfl) rfl (zV_one _) size_z ?_; intro v2s hw hr; replace HO := Lib.hid (HO.out.set (i := 0) rfl hw hr); clear hw hr)
          exact bodyPost_ret (results_v1 rfl _ _ g2 zon0 _ rfl (HO.out.row (i := 0) rfl) Tryz.underlying44 rfl size_z) rfl ⟨by rw [HE.out.2, HE.out.1]; rfl, HO.out.bl⟩
        refine wp_region_quiet_below (by as_aux_lemma => kernel_rfl) (by as_aux_lemma => kernel_rfl) ?_
        repeat (first | go_big_quiet_skip | (go_big_quiet_want; go_big_quiet_op; go_big_quiet_on) | quiet_step (with_reducible exact q4 _ _))
        refine wpQuiet_nil ?_
        intro w5 hw4
        replace HO := Lib.hid (HO.out.on (below_of_regrown hw4))
        clear hw4
        clear q4 k5
        have HF := Lib.hid (show jnN (fd f ls) = fd f ls 3 ++ (fd f ls 11).take (k - 1) ∧ jnO (fd f ls) = trimT ((fd f ls 11).drop (k + 1)) from ⟨by unfold jnN jN; rw [if_neg (fun h => h H4.out), HK.out], by unfold jnO jO; rw [if_neg (fun h => h H4.out), HK.out]⟩)
        go_wp2_with fail
        go_meet
        exact ⟨NU, TR, Lib.hid ⟨by rw [HF.out.1]; exact HNU.out.1, by rw [HF.out.2]; exact HNU.out.2.1.symm, HN3.out, by rw [HJN.out, if_neg (fun h => h (of_decide_eq_true HBN.out.symm))]⟩, HO⟩
      case rest =>
       clear HO
       obtain ⟨NU, OP, HJ, HO⟩ := hcut
       have HZ1 : Hid (∀ e, zoE f (fd f ls) = e → e ≠ 0 → parE ls = e ∧ zV (parZ ls) = zon0) := Lib.hid (fun e he hne => par_zo HP.out.1 (by omega) HP.out.2.1 HDG.out HCM.out he hne)
       have HZS : Hid (zoE f (fd f ls) = spE (fd f ls 2)) := Lib.hid (by unfold zoE; rw [if_neg HJ.out.2.2.1, HJ.out.2.2.2, if_neg (by decide)])
       obtain ⟨sp, hsp⟩ : ∃ e, spE (fd f ls 2) = e := ⟨_, rfl⟩
       obtain ⟨SU, hSU⟩ : ∃ X, S (spA (fd f ls 2)) = X := ⟨_, rfl⟩
       obtain ⟨GI, hGI⟩ : ∃ X, S (spB (fd f ls 2)) = X := ⟨_, rfl⟩
       obtain ⟨bf, hbf⟩ : ∃ b, spF (fd f ls 2) = b := ⟨_, rfl⟩
       have HSP : Hid (∀ w, Calls Tryz.prog 54 #[.string NM] w fun e w' => e = .returned (.tuple #[.string SU, .string GI, .bool bf, .int .i64 sp]) ∧ Below w.heap.size w w') := Lib.hid (fun w => by rw [← hSU, ← hGI, ← hbf, ← hsp]; exact r_split NM _ HW.out.nm w (by rw [HW.out.nm, S_size, HSL.out.1 2 (by decide)]; have := siz_le hf (k := 2) (by decide); omega))
       have HSQ := Lib.hid (show _ ∧ _ ∧ _ from ⟨hsp, hSU, hGI⟩)
       clear hsp hSU hGI hbf
       by_cases h0 : sp ≠ 0
       · have hb0 : (sp != 0) = true := by simpa using h0
         have HE : Hid (parE ls = sp ∧ zV (parZ ls) = zon0) := Lib.hid (HZ1.out sp (by rw [HZS.out]; exact HSQ.out.1) h0)
         clear h0
         go_wp2_with (first
          | (go_at_call 54; ((with_reducible refine (HSP.out _).mono ?_); rintro e w9 ⟨rfl, hb⟩); replace HO := Lib.hid (HO.out.on hb); clear hb)
          | ((with_reducible refine at_store_ (i := 2) ?_); refine wpList_store_v rfl 44 (.tmp 2) (.tmp 263) rfl g2 zon0 zon0 rfl rfl (HO.out.row (i := 0) rfl) rfl (zV_one _) size_z ?_; intro v2s hw hr; replace HO := Lib.hid (HO.out.set (i := 0) rfl hw hr); clear hw hr))
         exact bodyPost_ret (results_v1 rfl _ _ g2 zon0 _ rfl (HO.out.row (i := 0) rfl) Tryz.underlying44 rfl size_z) rfl ⟨by rw [HE.out.2, HE.out.1]; rfl, HO.out.bl⟩
       obtain rfl : sp = 0 := Classical.byContradiction h0
       clear h0
       obtain ⟨us, hus⟩ : ∃ us, zV (zoZ f (fd f ls)) = us := ⟨_, rfl⟩
       have HU : Hid ([.int .i64 f, .string KD, .string ST, .string SU, .string GI, .string NU, .string NA, .string (S (fd f ls 6)), .string (S (fd f ls 8)), .string (S (fd f ls 9)), .string OP, .string SE] = us) := Lib.hid (by
        have e0 : KD = S (trimT (fd f ls 0)) := by rw [(fd01 hf ls).1]; exact HKS.out.1.symm
        have e1 : ST = S (trimT (fd f ls 1)) := by rw [(fd01 hf ls).2]; exact HKS.out.2.symm
        rw [e0, e1, ← HSQ.out.2.1, ← HSQ.out.2.2, HJ.out.1, HJ.out.2.1, HW.out.na, HW.out.se, ← hus]
        rfl)
       obtain ⟨v, hv⟩ : ∃ v, vE (zoZ f (fd f ls)) = v := ⟨_, rfl⟩
       have HV : Hid (∀ w, Calls Tryz.prog 55 #[.agg us.toArray] w fun e w' => e = .returned (.int .i64 v) ∧ Below w.heap.size w w') := Lib.hid (fun w => by rw [← hv]; exact r_zvalid _ (bears_of (fun k => fd_le hf HP.out.2.2 k)) us hus w)
       have HPV := Lib.hid (par_v HP.out.1 (by omega) HP.out.2.1 HDG.out HCM.out (by rw [HZS.out]; exact HSQ.out.1))
       have HLN : Hid (us.length = 12 ∧ ∀ u ∈ us, u.oneCell' = true) := Lib.hid ⟨by rw [← hus]; rfl, by rw [← hus]; exact zV_one _⟩
       have HVU := Lib.hid (And.intro hv hus)
       clear hus hv
       by_cases h0 : v ≠ 0
       · have hb0 : (v != 0) = true := by simpa using h0
         have HE : Hid (parE ls = v ∧ zV (parZ ls) = zon0) := Lib.hid ⟨by rw [HPV.out.1]; exact HVU.out.1, by rw [HPV.out.2, if_neg (by rw [HVU.out.1]; exact h0)]; rfl⟩
         clear h0
         go_wp2_with (first
          | (go_at_call 54; ((with_reducible refine (HSP.out _).mono ?_); rintro e w9 ⟨rfl, hb⟩); replace HO := Lib.hid (HO.out.on hb); clear hb)
          | ((with_reducible refine at_store_ (i := 267) ?_); refine wpList_store_at rfl 9 (.tmp 267) (.tmp 265) rfl g8 3 _ (.string SU) rfl rfl (HO.out.row (i := 1) rfl) (by simp) rfl rfl size_st ?_; intro wa hw hr; have HO2 : Hid (Own w wa [(g2, zon0), (g8, [.int .i64 f, .string KD, .string ST, .string SU, .string ⟨#[]⟩, .string NU, .string NA, .string (S (fd f ls 6)), .string (S (fd f ls 8)), .string (S (fd f ls 9)), .string OP, .string SE])]) := Lib.hid (HO.out.set (i := 1) rfl hw hr); clear hw hr HO; have HO := HO2; clear HO2)
          | ((with_reducible refine at_store_ (i := 268) ?_); refine wpList_store_at rfl 9 (.tmp 268) (.tmp 266) rfl g8 4 _ (.string GI) rfl rfl (HO.out.row (i := 1) rfl) (by simp) rfl rfl size_st ?_; intro wb hw hr; have HO2 : Hid (Own w wb [(g2, zon0), (g8, us)]) := Lib.hid (by rw [← HU.out]; exact HO.out.set (i := 1) rfl hw hr); clear hw hr HO; have HO := HO2; clear HO2)
          | ((with_reducible refine at_load_ (d := 269) ?_); refine wpList_load_v rfl 44 (.tmp 8) rfl g8 rfl us _ (HO.out.row (i := 1) rfl) Tryz.underlying44 rfl (by rw [size_z, HLN.out.1]) ?_)
          | (go_at_call 55; ((with_reducible refine (HV.out _).mono ?_); rintro e w9 ⟨rfl, hb⟩); replace HO := Lib.hid (HO.out.on hb); clear hb)
          | ((with_reducible refine at_store_ (i := 2) ?_); refine wpList_store_v rfl 44 (.tmp 2) (.tmp 273) rfl g2 zon0 zon0 rfl rfl (HO.out.row (i := 0) rfl) rfl (zV_one _) size_z ?_; intro v2s hw hr; replace HO := Lib.hid (HO.out.set (i := 0) rfl hw hr); clear hw hr))
         exact bodyPost_ret (results_v1 rfl _ _ g2 zon0 _ rfl (HO.out.row (i := 0) rfl) Tryz.underlying44 rfl size_z) rfl ⟨by rw [HE.out.2, HE.out.1]; rfl, HO.out.bl⟩
       obtain rfl : v = 0 := Classical.byContradiction h0
       clear h0
       have HE : Hid (parE ls = 0 ∧ zV (parZ ls) = us) := Lib.hid ⟨by rw [HPV.out.1]; exact HVU.out.1, by rw [HPV.out.2, if_pos HVU.out.1]; exact HVU.out.2⟩
       go_wp2_with (first
        | (go_at_call 54; ((with_reducible refine (HSP.out _).mono ?_); rintro e w9 ⟨rfl, hb⟩); replace HO := Lib.hid (HO.out.on hb); clear hb)
        | ((with_reducible refine at_store_ (i := 267) ?_); refine wpList_store_at rfl 9 (.tmp 267) (.tmp 265) rfl g8 3 _ (.string SU) rfl rfl (HO.out.row (i := 1) rfl) (by simp) rfl rfl size_st ?_; intro wa hw hr; have HO2 : Hid (Own w wa [(g2, zon0), (g8, [.int .i64 f, .string KD, .string ST, .string SU, .string ⟨#[]⟩, .string NU, .string NA, .string (S (fd f ls 6)), .string (S (fd f ls 8)), .string (S (fd f ls 9)), .string OP, .string SE])]) := Lib.hid (HO.out.set (i := 1) rfl hw hr); clear hw hr HO; have HO := HO2; clear HO2)
        | ((with_reducible refine at_store_ (i := 268) ?_); refine wpList_store_at rfl 9 (.tmp 268) (.tmp 266) rfl g8 4 _ (.string GI) rfl rfl (HO.out.row (i := 1) rfl) (by simp) rfl rfl size_st ?_; intro wb hw hr; have HO2 : Hid (Own w wb [(g2, zon0), (g8, us)]) := Lib.hid (by rw [← HU.out]; exact HO.out.set (i := 1) rfl hw hr); clear hw hr HO; have HO := HO2; clear HO2)
        | ((with_reducible refine at_load_ (d := 269) ?_); refine wpList_load_v rfl 44 (.tmp 8) rfl g8 rfl us _ (HO.out.row (i := 1) rfl) Tryz.underlying44 rfl (by rw [size_z, HLN.out.1]) ?_)
        | (go_at_call 55; ((with_reducible refine (HV.out _).mono ?_); rintro e w9 ⟨rfl, hb⟩); replace HO := Lib.hid (HO.out.on hb); clear hb)
        | ((with_reducible refine at_load_ (d := 275) ?_); refine wpList_load_v rfl 44 (.tmp 8) rfl g8 rfl us _ (HO.out.row (i := 1) rfl) Tryz.underlying44 rfl (by rw [size_z, HLN.out.1]) ?_)
        | ((with_reducible refine at_store_ (i := 2) ?_); refine wpList_store_v rfl 44 (.tmp 2) (.tmp 275) rfl g2 zon0 us rfl rfl (HO.out.row (i := 0) rfl) HLN.out.1 HLN.out.2 (by rw [size_z, HLN.out.1]) ?_; intro v2s hw hr; replace HO := Lib.hid (HO.out.set (i := 0) rfl hw hr); clear hw hr))
       exact bodyPost_ret (results_v1 rfl _ _ g2 us _ rfl (HO.out.row (i := 0) rfl) Tryz.underlying44 rfl (by rw [size_z, HLN.out.1])) rfl ⟨by rw [HE.out.2, HE.out.1]; rfl, HO.out.bl⟩
end Go.Proofs.YtibahbkjjfmbgaaGreatDoor
