/-
  What is proved here: the law ZoneKeys as a function: true for any numbers.
-/
import Derived.Test.YtdlcoilpkelbaaaGreatDoorZrw
import Derived.Test.YtdlcoilpkelbaaaGreatDoorY13
namespace Go.Proofs.YtdlcoilpkelbaaaGreatDoor
open Go.RowKit Go.Maps Go.Deep
set_option linter.unusedVariables false

theorem key_len {z : Zn} (hz : vE z = 0) : (S (keyL z)).size ≤ 1000 := by
  obtain ⟨h1, h2, h3, h4, h5, h6, h7, h8, h9, h10, h11, h12, h13, h14, h15⟩ := vE_ok hz
  have hm : maxN z.fm ≤ 20 := by unfold maxN; repeat (first | omega | split)
  have a := dgL_le (wide9 z.nu)
  have b := dgL_le z.bi
  have c := dgL_le z.ex
  have d := bir_valid h9
  have e := (exp_ok h11).1
  have g : (wide9 z.nu).length ≤ 40 := by unfold wide9 wideL; rw [List.length_append, List.length_replicate]; omega
  rw [S_size]
  unfold keyL
  rw [if_pos hz]
  simp only [List.length_append]
  omega
theorem like_bears {y z : Zn} (hy : Bears y) (hz : Bears z) : Bears (likeN y z) := ⟨hy.kd, hy.st, hy.su, hy.gi, hz.nu, hy.na, hz.bi, hy.sx, hz.ex, by show (S []).size ≤ _; decide, hy.se⟩
theorem build_two {z : Zn} (hz : vE z = 0) (hf : z.fm ≠ 1) : (buildL z).length = 2 ∧ 36 ≤ ((buildL z).getD 1 []).length := by
  have h1 := (vE_ok hz).1
  have hL := bk_lines hz
  rw [build_T hz]
  have c : cntN z.fm = 2 := by unfold cntN; repeat (first | omega | rfl | split)
  have w : 36 ≤ widN z.fm := by unfold widN; repeat (first | omega | split)
  exact ⟨by rw [hL.1, c], by rw [hL.2 1 (by omega)]; exact w⟩

set_option maxHeartbeats 6400000 in
set_option maxRecDepth 40000 in
theorem zk_walk (A0 : Option Addr) (c : Nat) (x : List Int) (w : World) (hM : Mm w) (see : SeesP w (· < w.heap.size) A0 (x.map (Value.int .i64))) (m : x.length ≤ 140737488351232) (rng : ∀ y ∈ x, -9223372036854775808 ≤ y ∧ y ≤ 9223372036854775807) :
    Calls Tryz.prog 9 #[.slice A0 x.length c] w fun e w' => e = .returned (.bool true) ∧ Below w.heap.size w w' := by
  have HM := Lib.hid hM
  have HL := Lib.hid (made_light A0 x.length c w m)
  by_cases hx : ¬ x.length ≤ 400
  · have d : decide (x.length ≤ 400) = false := decide_eq_false hx
    rw [d] at HL
    clear hM see m rng hx d
    go_enter Tryz.func9, Tryz.ntmps9
    go_wp2_with (first
      | (go_at_call 20; refine HL.out.mono ?_; rintro e w' ⟨rfl, hw⟩; rw [hw]; clear hw)
      | (go_at_call 14; ((with_reducible refine (zone_awake _ HM.out).mono ?_); rintro e w1 ⟨rfl, hb⟩); have HB := Lib.hid hb; clear hb))
    go_ret
    exact ⟨rfl, HB.out⟩
  have d : decide (x.length ≤ 400) = true := decide_eq_true (Classical.not_not.1 hx)
  have HR := Lib.hid (made_roll A0 c x w m rng see)
  rw [d] at HL
  clear hM see m rng d hx
  go_enter Tryz.func9, Tryz.ntmps9
  go_wp2_with (first
    | (go_at_call 20; refine HL.out.mono ?_; rintro e w' ⟨rfl, hw⟩; rw [hw]; clear hw)
    | (go_at_call 21; refine HR.out.mono ?_; rintro e w1 ⟨rfl, hd1, hb1⟩))
  refine (dice_zone w.heap.size w1 hd1).mono ?_
  rintro e w2 ⟨z, rfl, hz, hbz, hg, hd⟩
  have HZ := Lib.hid (ZWorld.mk (w := w) (w2 := w2) (below_row hb1 hg) hz hbz)
  clear hb1 hz hbz hg HL HR hd1
  obtain ⟨us, hus⟩ : ∃ us, zV z = us := ⟨_, rfl⟩
  rw [hus]
  go_wp2_with fail
  refine (dice_zone w.heap.size w2 hd).mono ?_
  rintro e w3 ⟨y, rfl, hy, hby, hg, hd2⟩
  have HY := Lib.hid (ZWorld.mk (w := w) (w2 := w3) (below_row HZ.out.bl hg) hy hby)
  clear hy hby hg hd hd2
  obtain ⟨ys, hys⟩ : ∃ ys, zV y = ys := ⟨_, rfl⟩
  rw [hys]
  have HUL : Hid (us.length = zon0.length ∧ (∀ u ∈ us, u.oneCell' = true) ∧ (Tryz.prog.info? 23).map (·.size) = some us.length) := Lib.hid (by rw [← hus]; exact ⟨rfl, zV_one _, size_z⟩)
  have HYL : Hid (ys.length = zon0.length ∧ (∀ u ∈ ys, u.oneCell' = true) ∧ (Tryz.prog.info? 23).map (·.size) = some ys.length) := Lib.hid (by rw [← hys]; exact ⟨rfl, zV_one _, size_z⟩)
  obtain ⟨NU, hNU⟩ : ∃ X, S z.nu = X := ⟨_, rfl⟩
  obtain ⟨BI, hBI⟩ : ∃ X, S z.bi = X := ⟨_, rfl⟩
  obtain ⟨EX, hEX⟩ : ∃ X, S z.ex = X := ⟨_, rfl⟩
  obtain ⟨f, hf⟩ : ∃ f, z.fm = f := ⟨_, rfl⟩
  obtain ⟨fy, hfy⟩ : ∃ f, y.fm = f := ⟨_, rfl⟩
  obtain ⟨K, hK⟩ : ∃ X, S (keyL z) = X := ⟨_, rfl⟩
  have H0 : Hid (us[0]? = some (.int .i64 f) ∧ us[5]? = some (.string NU) ∧ us[7]? = some (.string BI) ∧ us[9]? = some (.string EX) ∧ ys[0]? = some (.int .i64 fy)) := Lib.hid (by rw [← hus, ← hys, ← hNU, ← hBI, ← hEX, ← hf, ← hfy]; exact ⟨rfl, rfl, rfl, rfl, rfl⟩)
  have hf1 : 1 ≤ f ∧ f ≤ 3 := by rw [← hf]; exact (vE_ok HZ.out.v).1
  have hNs : NU.size ≤ 140737488355328 := by rw [← hNU]; exact HZ.out.b.nu
  have HNA := Lib.hid (show _ ∧ _ ∧ _ ∧ _ ∧ _ ∧ _ from ⟨hNU, hBI, hEX, hf, hfy, hK⟩)
  obtain ⟨n, hn⟩ : ∃ n, (buildL z).length = n := ⟨_, rfl⟩
  have hn3 : n ≤ 3 := by rw [← hn]; exact build_n z
  have HBD : Hid (∀ w, Mm w → Calls Tryz.prog 10 #[.agg us.toArray] w fun e w' => ∃ A, e = .returned (.tuple #[.slice A n n, .int .i64 0]) ∧ Strs w' A (buildL z) ∧ Below w.heap.size w w') := Lib.hid (fun w hM => p_buildB z us hus 0 HZ.out.v n hn HZ.out.b w hM)
  have HKY : Hid (∀ w, Mm w → Calls Tryz.prog 12 #[.agg us.toArray] w fun e w' => e = .returned (.tuple #[.string K, .int .i64 0]) ∧ Below w.heap.size w w') := Lib.hid (fun w hM => p_keyB z us hus 0 HZ.out.v K hK HZ.out.b w hM)
  have HU := Lib.hid (show _ ∧ _ ∧ _ from ⟨hus, hys, hn⟩)
  have HM2 := Lib.hid (HM.out.on HY.out.bl)
  have HO := Lib.hid (Own.start w3)
  clear hNU hBI hEX hf hfy hK hus hys hn
  go_upto_if 41 with (first
    | ((with_reducible refine at_alloc_ (d := 4) ?_); refine wpList_alloc_v (op := ⟨some 4, _, _, _, _, _⟩) rfl 23 rfl zon0 info_z ?_; intro g4 v4a hf hr; replace HO := Lib.hid (HO.out.new hf hr); clear hf hr)
    | ((with_reducible refine at_alloc_ (d := 5) ?_); refine wpList_alloc_v (op := ⟨some 5, _, _, _, _, _⟩) rfl 23 rfl zon0 info_z ?_; intro g5 v5a hf hr; replace HO := Lib.hid (HO.out.new hf hr); clear hf hr)
    | ((with_reducible refine at_store_ (i := 4) ?_); refine wpList_store_v rfl 23 (.tmp 4) (.tmp 19) rfl g4 zon0 us rfl rfl (HO.out.row (i := 0) rfl) HUL.out.1 HUL.out.2.1 HUL.out.2.2 ?_; intro v4s hw hr; replace HO := Lib.hid (HO.out.set (i := 0) rfl hw hr); clear hw hr)
    | ((with_reducible refine at_store_ (i := 5) ?_); refine wpList_store_v rfl 23 (.tmp 5) (.tmp 21) rfl g5 zon0 ys rfl rfl (HO.out.row (i := 1) rfl) HYL.out.1 HYL.out.2.1 HYL.out.2.2 ?_; intro v5s hw hr; replace HO := Lib.hid (HO.out.set (i := 1) rfl hw hr); clear hw hr)
    | ((with_reducible refine at_load_ (d := 23) ?_); refine wpList_load_v rfl 23 (.tmp 4) rfl g4 rfl us _ (HO.out.row (i := 0) rfl) Tryz.underlying23 rfl HUL.out.2.2 ?_)
    | (go_at_call 10; ((with_reducible refine (HBD.out _ (HM2.out.on HO.out.bl)).mono ?_); rintro e w6 ⟨A, rfl, hs, hb⟩); have HS := Lib.hid hs; replace HO := Lib.hid (HO.out.on hb); have HB6 := Lib.hid (Below.refl w6.heap.size w6); clear hb hs)
    | ((with_reducible refine at_load_ (d := 28) ?_); refine wpList_load_v rfl 23 (.tmp 4) rfl g4 rfl us _ (HO.out.row (i := 0) rfl) Tryz.underlying23 rfl HUL.out.2.2 ?_)
    | (go_at_call 12; ((with_reducible refine (HKY.out _ (HM2.out.on HO.out.bl)).mono ?_); rintro e w7 ⟨rfl, hb⟩); replace HO := Lib.hid (HO.out.on hb); replace HB6 := Lib.hid (below_on HB6.out hb); clear hb)
    | (go_at_call 14; ((with_reducible refine (zone_awake _ (HM2.out.on HO.out.bl)).mono ?_); rintro e w8 ⟨rfl, hb⟩); replace HO := Lib.hid (HO.out.on hb); replace HB6 := Lib.hid (below_on HB6.out hb); clear hb))
  have c0 : World.cell? _ ⟨g4, 0, none⟩ = some (.int .i64 f) := ((HO.out.row (i := 0) rfl).cell 0).trans H0.out.1
  have c5 : World.cell? _ ⟨g4, 5, none⟩ = some (.string NU) := ((HO.out.row (i := 0) rfl).cell 5).trans H0.out.2.1
  have cy : World.cell? _ ⟨g5, 0, none⟩ = some (.int .i64 fy) := ((HO.out.row (i := 1) rfl).cell 0).trans H0.out.2.2.2.2
  have HVK : Hid (∀ w, Calls Tryz.prog 27 #[.string K] w fun e w' => e = .returned (.bool true) ∧ w = w') := Lib.hid (fun w => by rw [← HNA.out.2.2.2.2.2]; exact r_validB _ true (key_valid HZ.out.v) w (by have := key_len HZ.out.v; omega))
  obtain ⟨y0, y1, y2, y3, y4, y5, y6, y7, y8, y9, y10, y11, hyy⟩ := list12 HYL.out.1
  subst hyy
  obtain ⟨zs, hzs⟩ : ∃ zs, zV (likeN y z) = zs := ⟨_, rfl⟩
  have HZZ := Lib.hid hzs
  have HZS : Hid ([y0, y1, y2, y3, y4, .string NU, y6, .string BI, y8, .string EX, .string ⟨#[]⟩, y11] = zs) := Lib.hid (by
    have h := HU.out.2.1
    rw [← hzs, ← HNA.out.1, ← HNA.out.2.1, ← HNA.out.2.2.1]
    injection h with a0 h; injection h with a1 h; injection h with a2 h; injection h with a3 h; injection h with a4 h; injection h with a5 h; injection h with a6 h; injection h with a7 h; injection h with a8 h; injection h with a9 h; injection h with a10 h; injection h with a11 h
    rw [← a0, ← a1, ← a2, ← a3, ← a4, ← a6, ← a8, ← a11]
    rfl)
  have HZL : Hid (zs.length = 12) := Lib.hid (by rw [← hzs]; rfl)
  clear hzs
  have eNU : NU.size = z.nu.length := by rw [← HNA.out.1, S_size]
  have HEN := Lib.hid eNU
  clear eNU
  by_cases h9 : NU.size ≤ 9
  · have hlike := like_valid HY.out.v HZ.out.v (.inl (by have := HEN.out; omega))
    have d9 : decide ((NU.size : Int) ≤ 9) = true := by simp; omega
    have g9 : decide ((9 : Int) < (NU.size : Int)) = false := by simp; omega
    by_cases h1 : f = 1
    · have b1 : (f != 1) = false := by rw [h1]; rfl
      have HLK := Lib.hid hlike
      clear hlike
      go_wp2_with fail
      refine region_setC2 (by kernel_rfl) _ (fun (_ : Unit) i => ([.pointer (some ⟨g4, 5, none⟩), .string NU, .pointer (some ⟨g4, 7, none⟩), .string BI, .pointer (some ⟨g4, 9, none⟩), .string EX, .pointer (some ⟨g5, 5, none⟩), undef, .pointer (some ⟨g5, 7, none⟩), undef, .pointer (some ⟨g5, 9, none⟩), undef, .pointer (some ⟨g5, 10, none⟩), undef] : List Value).getD i undef) (fun _ Sx cur => Own w3 cur [(g4, us), (g5, [y0, y1, y2, y3, y4, if Sx 7 = true then .string NU else y5, y6, if Sx 9 = true then .string BI else y7, y8, if Sx 11 = true then .string EX else y9, if Sx 13 = true then .string ⟨#[]⟩ else y10, y11])]) (by kernel_rfl) () (by simp only [Bool.false_eq_true, ite_false]; exact HO.out.on (below_drewN _ _ 1)) ?_ ?_
      · refine ops_all (allI.cons ?_ (allI.cons ?_ (allI.cons ?_ (allI.cons ?_ (allI.cons ?_ (allI.cons ?_ (allI.cons ?_ (allI.cons ?_ (allI.cons ?_ (allI.cons ?_ (allI.cons ?_ (allI.cons ?_ (allI.cons ?_ (allI.cons ?_ allI.nil)))))))))))))) <;> intro _ Sx cur a hW hSi hdep hS hC <;> refine ⟨(), fun _ _ => rfl, ?_⟩
        · exact o_fa _ (.tmp 4) 5 rfl (hS.before hC hSi 4 rfl) (fa_z5 g4 _) ⟨rfl, by simpa using hW⟩
        · exact o_ld _ (.tmp 88) rfl (hS.get 0 (dep_at hdep 0 rfl) rfl rfl) (((hW.row (i := 0) rfl).cell 5).trans H0.out.2.1) isAgg_s ⟨rfl, by simpa using hW⟩
        · exact o_fa _ (.tmp 4) 7 rfl (hS.before hC hSi 4 rfl) (fa_z7 g4 _) ⟨rfl, by simpa using hW⟩
        · exact o_ld _ (.tmp 90) rfl (hS.get 2 (dep_at hdep 2 rfl) rfl rfl) (((hW.row (i := 0) rfl).cell 7).trans H0.out.2.2.1) isAgg_s ⟨rfl, by simpa using hW⟩
        · exact o_fa _ (.tmp 4) 9 rfl (hS.before hC hSi 4 rfl) (fa_z9 g4 _) ⟨rfl, by simpa using hW⟩
        · exact o_ld _ (.tmp 92) rfl (hS.get 4 (dep_at hdep 4 rfl) rfl rfl) (((hW.row (i := 0) rfl).cell 9).trans H0.out.2.2.2.1) isAgg_s ⟨rfl, by simpa using hW⟩
        · exact o_fa _ (.tmp 5) 5 rfl (hS.before hC hSi 5 rfl) (fa_z5 g5 _) ⟨rfl, by simpa using hW⟩
        · rw [hSi] at hW
          refine wp_store_at 9 (.tmp 94) (.tmp 89) rfl g5 5 _ (.string NU) (hS.get 6 (dep_at hdep 6 rfl) rfl rfl) (hS.get 1 (dep_at hdep 1 rfl) rfl rfl) (hW.row (i := 1) rfl) (by simp) rfl rfl size_st ?_
          intro w' hw hr
          exact ⟨rfl, by simpa using hW.set (i := 1) rfl hw hr⟩
        · exact o_fa _ (.tmp 5) 7 rfl (hS.before hC hSi 5 rfl) (fa_z7 g5 _) ⟨rfl, by simpa using hW⟩
        · rw [hSi] at hW
          refine wp_store_at 9 (.tmp 95) (.tmp 91) rfl g5 7 _ (.string BI) (hS.get 8 (dep_at hdep 8 rfl) rfl rfl) (hS.get 3 (dep_at hdep 3 rfl) rfl rfl) (hW.row (i := 1) rfl) (by simp) rfl rfl size_st ?_
          intro w' hw hr
          exact ⟨rfl, by simpa using hW.set (i := 1) rfl hw hr⟩
        · exact o_fa _ (.tmp 5) 9 rfl (hS.before hC hSi 5 rfl) (fa_z9 g5 _) ⟨rfl, by simpa using hW⟩
        · rw [hSi] at hW
          refine wp_store_at 9 (.tmp 96) (.tmp 93) rfl g5 9 _ (.string EX) (hS.get 10 (dep_at hdep 10 rfl) rfl rfl) (hS.get 5 (dep_at hdep 5 rfl) rfl rfl) (hW.row (i := 1) rfl) (by simp) rfl rfl size_st ?_
          intro w' hw hr
          exact ⟨rfl, by simpa using hW.set (i := 1) rfl hw hr⟩
        · exact o_fa _ (.tmp 5) 10 rfl (hS.before hC hSi 5 rfl) (fa_z10 g5 _) ⟨rfl, by simpa using hW⟩
        · rw [hSi] at hW
          refine wp_store_at 9 (.tmp 97) (.const (.string ⟨#[]⟩)) rfl g5 10 _ (.string ⟨#[]⟩) (hS.get 12 (dep_at hdep 12 rfl) rfl rfl) rfl (hW.row (i := 1) rfl) (by simp) rfl rfl size_st ?_
          intro w' hw hr
          exact ⟨rfl, by simpa using hW.set (i := 1) rfl hw hr⟩
      intro _ cur SS hall hW
      simp only [hall 7 (by decide), hall 9 (by decide), hall 11 (by decide), hall 13 (by decide), if_true] at hW
      have HO2 : Hid (Own w3 cur [(g4, us), (g5, zs)]) := Lib.hid (by rw [← HZS.out]; exact hW)
      clear hW hall SS HO
      simp only [putAll, Act.put]
      simp
      have HK2 : Hid (∀ w, Mm w → Calls Tryz.prog 12 #[.agg zs.toArray] w fun e w' => e = .returned (.tuple #[.string K, .int .i64 0]) ∧ Below w.heap.size w w') := Lib.hid (fun w hM => p_keyB (likeN y z) zs HZZ.out 0 HLK.out K (by rw [like_key HLK.out HZ.out.v]; exact HNA.out.2.2.2.2.2) (like_bears HY.out.b HZ.out.b) w hM)
      go_wp2_with (first
        | ((with_reducible refine at_load_ (d := 99) ?_); refine wpList_load_v rfl 23 (.tmp 5) rfl g5 rfl zs _ (HO2.out.row (i := 1) rfl) Tryz.underlying23 rfl (by rw [size_z, HZL.out]) ?_)
        | (go_at_call 12; ((with_reducible refine (HK2.out _ (HM2.out.on HO2.out.bl)).mono ?_); rintro e w9 ⟨rfl, hb⟩); replace HO2 := Lib.hid (HO2.out.on hb); clear hb)
        | (go_at_call 27; ((with_reducible refine (HVK.out _).mono ?_); rintro e w10 ⟨rfl, rfl⟩)))
      go_ret
      exact ⟨rfl, below_on HY.out.bl HO2.out.bl⟩
    · have b1 : (f != 1) = true := by simpa using h1
      have hz1 : z.fm ≠ 1 := by rw [HNA.out.2.2.2.1]; exact h1
      obtain ⟨hn2, hl2⟩ := build_two HZ.out.v hz1
      obtain rfl : n = 2 := HU.out.2.2.symm.trans hn2
      obtain ⟨ab, ao, rfl, hab, hcell⟩ := HS.out.cell (by omega)
      have hc1 := hcell 1 (by omega)
      obtain ⟨X1, hX1⟩ : ∃ X, S ((buildL z).getD 1 []) = X := ⟨_, rfl⟩
      rw [hX1] at hc1
      have sX : 36 ≤ X1.size := by rw [← hX1, S_size]; exact hl2
      have hkk : X1.extract 0 10 ++ X1.extract 13 20 ++ X1.extract 21 28 = K := by
        rw [← HNA.out.2.2.2.2.2, ← key_lines HZ.out.v hz1 (by have := HEN.out; omega), ← hX1, build_T HZ.out.v]
        simp only [S_extract, S_append]
        rfl
      have lc := fun (d : Nat) (os : Array Obj) => cell_regrown ((HB6.out.cell (p := ⟨ab, ao + 1, none⟩) hab).trans hc1) d os
      have dX : decide ((X1.size : Int) < 28) = false := by simp; omega
      clear hX1 hcell hc1 hab hz1 hn2 hl2
      go_wp2_with fail
      refine wp_region_quiet_below (by kernel_rfl) (by kernel_rfl) ?_
      repeat (first | go_big_quiet_skip | (go_big_quiet_want; go_big_quiet_op; go_big_quiet_on))
      refine wpQuiet_nil ?_
      intro w12 hw12
      replace HO := Lib.hid (HO.out.on (below_of_regrown hw12))
      clear hw12 lc c0 c5 cy
      have c0 : World.cell? _ ⟨g4, 0, none⟩ = some (.int .i64 f) := ((HO.out.row (i := 0) rfl).cell 0).trans H0.out.1
      have c5 : World.cell? _ ⟨g4, 5, none⟩ = some (.string NU) := ((HO.out.row (i := 0) rfl).cell 5).trans H0.out.2.1
      have HLK := Lib.hid hlike
      clear hlike
      go_wp2_with fail
      refine region_setC2 (by kernel_rfl) _ (fun (_ : Unit) i => ([.pointer (some ⟨g4, 5, none⟩), .string NU, .pointer (some ⟨g4, 7, none⟩), .string BI, .pointer (some ⟨g4, 9, none⟩), .string EX, .pointer (some ⟨g5, 5, none⟩), undef, .pointer (some ⟨g5, 7, none⟩), undef, .pointer (some ⟨g5, 9, none⟩), undef, .pointer (some ⟨g5, 10, none⟩), undef] : List Value).getD i undef) (fun _ Sx cur => Own w3 cur [(g4, us), (g5, [y0, y1, y2, y3, y4, if Sx 7 = true then .string NU else y5, y6, if Sx 9 = true then .string BI else y7, y8, if Sx 11 = true then .string EX else y9, if Sx 13 = true then .string ⟨#[]⟩ else y10, y11])]) (by kernel_rfl) () (by simp only [Bool.false_eq_true, ite_false]; exact HO.out.on (below_drewN _ _ 1)) ?_ ?_
      · refine ops_all (allI.cons ?_ (allI.cons ?_ (allI.cons ?_ (allI.cons ?_ (allI.cons ?_ (allI.cons ?_ (allI.cons ?_ (allI.cons ?_ (allI.cons ?_ (allI.cons ?_ (allI.cons ?_ (allI.cons ?_ (allI.cons ?_ (allI.cons ?_ allI.nil)))))))))))))) <;> intro _ Sx cur a hW hSi hdep hS hC <;> refine ⟨(), fun _ _ => rfl, ?_⟩
        · exact o_fa _ (.tmp 4) 5 rfl (hS.before hC hSi 4 rfl) (fa_z5 g4 _) ⟨rfl, by simpa using hW⟩
        · exact o_ld _ (.tmp 88) rfl (hS.get 0 (dep_at hdep 0 rfl) rfl rfl) (((hW.row (i := 0) rfl).cell 5).trans H0.out.2.1) isAgg_s ⟨rfl, by simpa using hW⟩
        · exact o_fa _ (.tmp 4) 7 rfl (hS.before hC hSi 4 rfl) (fa_z7 g4 _) ⟨rfl, by simpa using hW⟩
        · exact o_ld _ (.tmp 90) rfl (hS.get 2 (dep_at hdep 2 rfl) rfl rfl) (((hW.row (i := 0) rfl).cell 7).trans H0.out.2.2.1) isAgg_s ⟨rfl, by simpa using hW⟩
        · exact o_fa _ (.tmp 4) 9 rfl (hS.before hC hSi 4 rfl) (fa_z9 g4 _) ⟨rfl, by simpa using hW⟩
        · exact o_ld _ (.tmp 92) rfl (hS.get 4 (dep_at hdep 4 rfl) rfl rfl) (((hW.row (i := 0) rfl).cell 9).trans H0.out.2.2.2.1) isAgg_s ⟨rfl, by simpa using hW⟩
        · exact o_fa _ (.tmp 5) 5 rfl (hS.before hC hSi 5 rfl) (fa_z5 g5 _) ⟨rfl, by simpa using hW⟩
        · rw [hSi] at hW
          refine wp_store_at 9 (.tmp 94) (.tmp 89) rfl g5 5 _ (.string NU) (hS.get 6 (dep_at hdep 6 rfl) rfl rfl) (hS.get 1 (dep_at hdep 1 rfl) rfl rfl) (hW.row (i := 1) rfl) (by simp) rfl rfl size_st ?_
          intro w' hw hr
          exact ⟨rfl, by simpa using hW.set (i := 1) rfl hw hr⟩
        · exact o_fa _ (.tmp 5) 7 rfl (hS.before hC hSi 5 rfl) (fa_z7 g5 _) ⟨rfl, by simpa using hW⟩
        · rw [hSi] at hW
          refine wp_store_at 9 (.tmp 95) (.tmp 91) rfl g5 7 _ (.string BI) (hS.get 8 (dep_at hdep 8 rfl) rfl rfl) (hS.get 3 (dep_at hdep 3 rfl) rfl rfl) (hW.row (i := 1) rfl) (by simp) rfl rfl size_st ?_
          intro w' hw hr
          exact ⟨rfl, by simpa using hW.set (i := 1) rfl hw hr⟩
        · exact o_fa _ (.tmp 5) 9 rfl (hS.before hC hSi 5 rfl) (fa_z9 g5 _) ⟨rfl, by simpa using hW⟩
        · rw [hSi] at hW
          refine wp_store_at 9 (.tmp 96) (.tmp 93) rfl g5 9 _ (.string EX) (hS.get 10 (dep_at hdep 10 rfl) rfl rfl) (hS.get 5 (dep_at hdep 5 rfl) rfl rfl) (hW.row (i := 1) rfl) (by simp) rfl rfl size_st ?_
          intro w' hw hr
          exact ⟨rfl, by simpa using hW.set (i := 1) rfl hw hr⟩
        · exact o_fa _ (.tmp 5) 10 rfl (hS.before hC hSi 5 rfl) (fa_z10 g5 _) ⟨rfl, by simpa using hW⟩
        · rw [hSi] at hW
          refine wp_store_at 9 (.tmp 97) (.const (.string ⟨#[]⟩)) rfl g5 10 _ (.string ⟨#[]⟩) (hS.get 12 (dep_at hdep 12 rfl) rfl rfl) rfl (hW.row (i := 1) rfl) (by simp) rfl rfl size_st ?_
          intro w' hw hr
          exact ⟨rfl, by simpa using hW.set (i := 1) rfl hw hr⟩
      intro _ cur SS hall hW
      simp only [hall 7 (by decide), hall 9 (by decide), hall 11 (by decide), hall 13 (by decide), if_true] at hW
      have HO2 : Hid (Own w3 cur [(g4, us), (g5, zs)]) := Lib.hid (by rw [← HZS.out]; exact hW)
      clear hW hall SS HO
      simp only [putAll, Act.put]
      simp
      have HK2 : Hid (∀ w, Mm w → Calls Tryz.prog 12 #[.agg zs.toArray] w fun e w' => e = .returned (.tuple #[.string K, .int .i64 0]) ∧ Below w.heap.size w w') := Lib.hid (fun w hM => p_keyB (likeN y z) zs HZZ.out 0 HLK.out K (by rw [like_key HLK.out HZ.out.v]; exact HNA.out.2.2.2.2.2) (like_bears HY.out.b HZ.out.b) w hM)
      go_wp2_with (first
        | ((with_reducible refine at_load_ (d := 99) ?_); refine wpList_load_v rfl 23 (.tmp 5) rfl g5 rfl zs _ (HO2.out.row (i := 1) rfl) Tryz.underlying23 rfl (by rw [size_z, HZL.out]) ?_)
        | (go_at_call 12; ((with_reducible refine (HK2.out _ (HM2.out.on HO2.out.bl)).mono ?_); rintro e w9 ⟨rfl, hb⟩); replace HO2 := Lib.hid (HO2.out.on hb); clear hb)
        | (go_at_call 27; ((with_reducible refine (HVK.out _).mono ?_); rintro e w10 ⟨rfl, rfl⟩)))
      go_ret
      exact ⟨rfl, below_on HY.out.bl HO2.out.bl⟩
  · have d9 : decide ((NU.size : Int) ≤ 9) = false := by simp; omega
    have g9 : decide ((9 : Int) < (NU.size : Int)) = true := by simp; omega
    by_cases h2 : fy = 1
    · have hlike := like_valid HY.out.v HZ.out.v (.inr (by rw [HNA.out.2.2.2.2.1]; exact h2))
      have b2 : (fy != 1) = false := by rw [h2]; rfl
      by_cases h1 : f = 1
      · have b1 : (f != 1) = false := by rw [h1]; rfl
        have HLK := Lib.hid hlike
        clear hlike
        go_wp2_with fail
        refine region_setC2 (by kernel_rfl) _ (fun (_ : Unit) i => ([.pointer (some ⟨g4, 5, none⟩), .string NU, .pointer (some ⟨g4, 7, none⟩), .string BI, .pointer (some ⟨g4, 9, none⟩), .string EX, .pointer (some ⟨g5, 5, none⟩), undef, .pointer (some ⟨g5, 7, none⟩), undef, .pointer (some ⟨g5, 9, none⟩), undef, .pointer (some ⟨g5, 10, none⟩), undef] : List Value).getD i undef) (fun _ Sx cur => Own w3 cur [(g4, us), (g5, [y0, y1, y2, y3, y4, if Sx 7 = true then .string NU else y5, y6, if Sx 9 = true then .string BI else y7, y8, if Sx 11 = true then .string EX else y9, if Sx 13 = true then .string ⟨#[]⟩ else y10, y11])]) (by kernel_rfl) () (by simp only [Bool.false_eq_true, ite_false]; exact HO.out.on (below_drewN _ _ 1)) ?_ ?_
        · refine ops_all (allI.cons ?_ (allI.cons ?_ (allI.cons ?_ (allI.cons ?_ (allI.cons ?_ (allI.cons ?_ (allI.cons ?_ (allI.cons ?_ (allI.cons ?_ (allI.cons ?_ (allI.cons ?_ (allI.cons ?_ (allI.cons ?_ (allI.cons ?_ allI.nil)))))))))))))) <;> intro _ Sx cur a hW hSi hdep hS hC <;> refine ⟨(), fun _ _ => rfl, ?_⟩
          · exact o_fa _ (.tmp 4) 5 rfl (hS.before hC hSi 4 rfl) (fa_z5 g4 _) ⟨rfl, by simpa using hW⟩
          · exact o_ld _ (.tmp 88) rfl (hS.get 0 (dep_at hdep 0 rfl) rfl rfl) (((hW.row (i := 0) rfl).cell 5).trans H0.out.2.1) isAgg_s ⟨rfl, by simpa using hW⟩
          · exact o_fa _ (.tmp 4) 7 rfl (hS.before hC hSi 4 rfl) (fa_z7 g4 _) ⟨rfl, by simpa using hW⟩
          · exact o_ld _ (.tmp 90) rfl (hS.get 2 (dep_at hdep 2 rfl) rfl rfl) (((hW.row (i := 0) rfl).cell 7).trans H0.out.2.2.1) isAgg_s ⟨rfl, by simpa using hW⟩
          · exact o_fa _ (.tmp 4) 9 rfl (hS.before hC hSi 4 rfl) (fa_z9 g4 _) ⟨rfl, by simpa using hW⟩
          · exact o_ld _ (.tmp 92) rfl (hS.get 4 (dep_at hdep 4 rfl) rfl rfl) (((hW.row (i := 0) rfl).cell 9).trans H0.out.2.2.2.1) isAgg_s ⟨rfl, by simpa using hW⟩
          · exact o_fa _ (.tmp 5) 5 rfl (hS.before hC hSi 5 rfl) (fa_z5 g5 _) ⟨rfl, by simpa using hW⟩
          · rw [hSi] at hW
            refine wp_store_at 9 (.tmp 94) (.tmp 89) rfl g5 5 _ (.string NU) (hS.get 6 (dep_at hdep 6 rfl) rfl rfl) (hS.get 1 (dep_at hdep 1 rfl) rfl rfl) (hW.row (i := 1) rfl) (by simp) rfl rfl size_st ?_
            intro w' hw hr
            exact ⟨rfl, by simpa using hW.set (i := 1) rfl hw hr⟩
          · exact o_fa _ (.tmp 5) 7 rfl (hS.before hC hSi 5 rfl) (fa_z7 g5 _) ⟨rfl, by simpa using hW⟩
          · rw [hSi] at hW
            refine wp_store_at 9 (.tmp 95) (.tmp 91) rfl g5 7 _ (.string BI) (hS.get 8 (dep_at hdep 8 rfl) rfl rfl) (hS.get 3 (dep_at hdep 3 rfl) rfl rfl) (hW.row (i := 1) rfl) (by simp) rfl rfl size_st ?_
            intro w' hw hr
            exact ⟨rfl, by simpa using hW.set (i := 1) rfl hw hr⟩
          · exact o_fa _ (.tmp 5) 9 rfl (hS.before hC hSi 5 rfl) (fa_z9 g5 _) ⟨rfl, by simpa using hW⟩
          · rw [hSi] at hW
            refine wp_store_at 9 (.tmp 96) (.tmp 93) rfl g5 9 _ (.string EX) (hS.get 10 (dep_at hdep 10 rfl) rfl rfl) (hS.get 5 (dep_at hdep 5 rfl) rfl rfl) (hW.row (i := 1) rfl) (by simp) rfl rfl size_st ?_
            intro w' hw hr
            exact ⟨rfl, by simpa using hW.set (i := 1) rfl hw hr⟩
          · exact o_fa _ (.tmp 5) 10 rfl (hS.before hC hSi 5 rfl) (fa_z10 g5 _) ⟨rfl, by simpa using hW⟩
          · rw [hSi] at hW
            refine wp_store_at 9 (.tmp 97) (.const (.string ⟨#[]⟩)) rfl g5 10 _ (.string ⟨#[]⟩) (hS.get 12 (dep_at hdep 12 rfl) rfl rfl) rfl (hW.row (i := 1) rfl) (by simp) rfl rfl size_st ?_
            intro w' hw hr
            exact ⟨rfl, by simpa using hW.set (i := 1) rfl hw hr⟩
        intro _ cur SS hall hW
        simp only [hall 7 (by decide), hall 9 (by decide), hall 11 (by decide), hall 13 (by decide), if_true] at hW
        have HO2 : Hid (Own w3 cur [(g4, us), (g5, zs)]) := Lib.hid (by rw [← HZS.out]; exact hW)
        clear hW hall SS HO
        simp only [putAll, Act.put]
        simp
        have HK2 : Hid (∀ w, Mm w → Calls Tryz.prog 12 #[.agg zs.toArray] w fun e w' => e = .returned (.tuple #[.string K, .int .i64 0]) ∧ Below w.heap.size w w') := Lib.hid (fun w hM => p_keyB (likeN y z) zs HZZ.out 0 HLK.out K (by rw [like_key HLK.out HZ.out.v]; exact HNA.out.2.2.2.2.2) (like_bears HY.out.b HZ.out.b) w hM)
        go_wp2_with (first
          | ((with_reducible refine at_load_ (d := 99) ?_); refine wpList_load_v rfl 23 (.tmp 5) rfl g5 rfl zs _ (HO2.out.row (i := 1) rfl) Tryz.underlying23 rfl (by rw [size_z, HZL.out]) ?_)
          | (go_at_call 12; ((with_reducible refine (HK2.out _ (HM2.out.on HO2.out.bl)).mono ?_); rintro e w9 ⟨rfl, hb⟩); replace HO2 := Lib.hid (HO2.out.on hb); clear hb)
          | (go_at_call 27; ((with_reducible refine (HVK.out _).mono ?_); rintro e w10 ⟨rfl, rfl⟩)))
        go_ret
        exact ⟨rfl, below_on HY.out.bl HO2.out.bl⟩
      · have b1 : (f != 1) = true := by simpa using h1
        have HLK := Lib.hid hlike
        clear hlike
        go_wp2_with fail
        refine region_setC2 (by kernel_rfl) _ (fun (_ : Unit) i => ([.pointer (some ⟨g4, 5, none⟩), .string NU, .pointer (some ⟨g4, 7, none⟩), .string BI, .pointer (some ⟨g4, 9, none⟩), .string EX, .pointer (some ⟨g5, 5, none⟩), undef, .pointer (some ⟨g5, 7, none⟩), undef, .pointer (some ⟨g5, 9, none⟩), undef, .pointer (some ⟨g5, 10, none⟩), undef] : List Value).getD i undef) (fun _ Sx cur => Own w3 cur [(g4, us), (g5, [y0, y1, y2, y3, y4, if Sx 7 = true then .string NU else y5, y6, if Sx 9 = true then .string BI else y7, y8, if Sx 11 = true then .string EX else y9, if Sx 13 = true then .string ⟨#[]⟩ else y10, y11])]) (by kernel_rfl) () (by simp only [Bool.false_eq_true, ite_false]; exact HO.out.on (below_drewN _ _ 1)) ?_ ?_
        · refine ops_all (allI.cons ?_ (allI.cons ?_ (allI.cons ?_ (allI.cons ?_ (allI.cons ?_ (allI.cons ?_ (allI.cons ?_ (allI.cons ?_ (allI.cons ?_ (allI.cons ?_ (allI.cons ?_ (allI.cons ?_ (allI.cons ?_ (allI.cons ?_ allI.nil)))))))))))))) <;> intro _ Sx cur a hW hSi hdep hS hC <;> refine ⟨(), fun _ _ => rfl, ?_⟩
          · exact o_fa _ (.tmp 4) 5 rfl (hS.before hC hSi 4 rfl) (fa_z5 g4 _) ⟨rfl, by simpa using hW⟩
          · exact o_ld _ (.tmp 88) rfl (hS.get 0 (dep_at hdep 0 rfl) rfl rfl) (((hW.row (i := 0) rfl).cell 5).trans H0.out.2.1) isAgg_s ⟨rfl, by simpa using hW⟩
          · exact o_fa _ (.tmp 4) 7 rfl (hS.before hC hSi 4 rfl) (fa_z7 g4 _) ⟨rfl, by simpa using hW⟩
          · exact o_ld _ (.tmp 90) rfl (hS.get 2 (dep_at hdep 2 rfl) rfl rfl) (((hW.row (i := 0) rfl).cell 7).trans H0.out.2.2.1) isAgg_s ⟨rfl, by simpa using hW⟩
          · exact o_fa _ (.tmp 4) 9 rfl (hS.before hC hSi 4 rfl) (fa_z9 g4 _) ⟨rfl, by simpa using hW⟩
          · exact o_ld _ (.tmp 92) rfl (hS.get 4 (dep_at hdep 4 rfl) rfl rfl) (((hW.row (i := 0) rfl).cell 9).trans H0.out.2.2.2.1) isAgg_s ⟨rfl, by simpa using hW⟩
          · exact o_fa _ (.tmp 5) 5 rfl (hS.before hC hSi 5 rfl) (fa_z5 g5 _) ⟨rfl, by simpa using hW⟩
          · rw [hSi] at hW
            refine wp_store_at 9 (.tmp 94) (.tmp 89) rfl g5 5 _ (.string NU) (hS.get 6 (dep_at hdep 6 rfl) rfl rfl) (hS.get 1 (dep_at hdep 1 rfl) rfl rfl) (hW.row (i := 1) rfl) (by simp) rfl rfl size_st ?_
            intro w' hw hr
            exact ⟨rfl, by simpa using hW.set (i := 1) rfl hw hr⟩
          · exact o_fa _ (.tmp 5) 7 rfl (hS.before hC hSi 5 rfl) (fa_z7 g5 _) ⟨rfl, by simpa using hW⟩
          · rw [hSi] at hW
            refine wp_store_at 9 (.tmp 95) (.tmp 91) rfl g5 7 _ (.string BI) (hS.get 8 (dep_at hdep 8 rfl) rfl rfl) (hS.get 3 (dep_at hdep 3 rfl) rfl rfl) (hW.row (i := 1) rfl) (by simp) rfl rfl size_st ?_
            intro w' hw hr
            exact ⟨rfl, by simpa using hW.set (i := 1) rfl hw hr⟩
          · exact o_fa _ (.tmp 5) 9 rfl (hS.before hC hSi 5 rfl) (fa_z9 g5 _) ⟨rfl, by simpa using hW⟩
          · rw [hSi] at hW
            refine wp_store_at 9 (.tmp 96) (.tmp 93) rfl g5 9 _ (.string EX) (hS.get 10 (dep_at hdep 10 rfl) rfl rfl) (hS.get 5 (dep_at hdep 5 rfl) rfl rfl) (hW.row (i := 1) rfl) (by simp) rfl rfl size_st ?_
            intro w' hw hr
            exact ⟨rfl, by simpa using hW.set (i := 1) rfl hw hr⟩
          · exact o_fa _ (.tmp 5) 10 rfl (hS.before hC hSi 5 rfl) (fa_z10 g5 _) ⟨rfl, by simpa using hW⟩
          · rw [hSi] at hW
            refine wp_store_at 9 (.tmp 97) (.const (.string ⟨#[]⟩)) rfl g5 10 _ (.string ⟨#[]⟩) (hS.get 12 (dep_at hdep 12 rfl) rfl rfl) rfl (hW.row (i := 1) rfl) (by simp) rfl rfl size_st ?_
            intro w' hw hr
            exact ⟨rfl, by simpa using hW.set (i := 1) rfl hw hr⟩
        intro _ cur SS hall hW
        simp only [hall 7 (by decide), hall 9 (by decide), hall 11 (by decide), hall 13 (by decide), if_true] at hW
        have HO2 : Hid (Own w3 cur [(g4, us), (g5, zs)]) := Lib.hid (by rw [← HZS.out]; exact hW)
        clear hW hall SS HO
        simp only [putAll, Act.put]
        simp
        have HK2 : Hid (∀ w, Mm w → Calls Tryz.prog 12 #[.agg zs.toArray] w fun e w' => e = .returned (.tuple #[.string K, .int .i64 0]) ∧ Below w.heap.size w w') := Lib.hid (fun w hM => p_keyB (likeN y z) zs HZZ.out 0 HLK.out K (by rw [like_key HLK.out HZ.out.v]; exact HNA.out.2.2.2.2.2) (like_bears HY.out.b HZ.out.b) w hM)
        go_wp2_with (first
          | ((with_reducible refine at_load_ (d := 99) ?_); refine wpList_load_v rfl 23 (.tmp 5) rfl g5 rfl zs _ (HO2.out.row (i := 1) rfl) Tryz.underlying23 rfl (by rw [size_z, HZL.out]) ?_)
          | (go_at_call 12; ((with_reducible refine (HK2.out _ (HM2.out.on HO2.out.bl)).mono ?_); rintro e w9 ⟨rfl, hb⟩); replace HO2 := Lib.hid (HO2.out.on hb); clear hb)
          | (go_at_call 27; ((with_reducible refine (HVK.out _).mono ?_); rintro e w10 ⟨rfl, rfl⟩)))
        go_ret
        exact ⟨rfl, below_on HY.out.bl HO2.out.bl⟩
    · have b2 : (fy != 1) = true := by simpa using h2
      by_cases h1 : f = 1
      · have b1 : (f != 1) = false := by rw [h1]; rfl
        go_wp2_with fail
        go_ret
        exact ⟨rfl, below_on HY.out.bl HO.out.bl⟩
      · have b1 : (f != 1) = true := by simpa using h1
        go_wp2_with fail
        go_ret
        exact ⟨rfl, below_on HY.out.bl HO.out.bl⟩
end Go.Proofs.YtdlcoilpkelbaaaGreatDoor
