/-
  What is proved here: what Build gives: lines in a block of their own.
-/
import Derived.Test.YtdlcoilpkelbaaaGreatDoorY7
import Derived.Test.YtdlcoilpkelbaaaGreatDoorZym
namespace Go.Proofs.YtdlcoilpkelbaaaGreatDoor
open Go.RowKit Go.Maps
set_option linter.unusedVariables false

theorem p_writeMB (f : Int) (h : 1 ≤ f ∧ f ≤ 3) (ct : Nat) (hct : cntN f = ct) (mb n : Nat) (T : Nat → List UInt8) (ls : List (List UInt8)) (hls : linesT f T = ls) (w : World) (hm : MapIs w mb n T) :
    Calls Tryz.prog 31 #[.agg (layV f).toArray, .map (some mb)] w fun e w' => ∃ A, e = .returned (.slice A ct ct) ∧ StrsM w w' A ls ∧ Below w.heap.size w w' := by
  rw [← hct, ← hls]; exact p_writeM f h mb n T w hm
set_option maxHeartbeats 1600000 in
set_option maxRecDepth 20000 in
theorem p_buildM (z : Zn) (hz : Bears z) (w : World) (hM : Mm w) :
    Calls Tryz.prog 10 #[z.val] w fun e w' => ∃ A, e = .returned (.tuple #[.slice A (buildL z).length (buildL z).length, .int .i64 (vE z)]) ∧ StrsM w w' A (buildL z) ∧ Below w.heap.size w w' := by
  have HM := Lib.hid hM
  have HZ := Lib.hid hz
  have HO := Lib.hid (Own.start w)
  have e0 : z.val = .agg (zV z).toArray := rfl
  obtain ⟨us, hus⟩ : ∃ us, zV z = us := ⟨_, rfl⟩
  rw [e0, hus]
  have HU := Lib.hid hus
  have HU0 : Hid (us[0]? = some (.int .i64 z.fm)) := Lib.hid (by rw [← hus]; rfl)
  have HSZ : Hid ((Tryz.prog.info? 23).map (·.size) = some us.length) := Lib.hid (by rw [← hus]; kernel_rfl)
  clear e0 hus hM hz
  by_cases hv : vE z = 0
  · have hbl : buildL z = buildT z := by unfold buildL; rw [if_pos hv]
    have HFT := Lib.hid (HZ.out.fits hv)
    have hf := HFT.out.fm
    rw [hv, hbl]
    have HV := Lib.hid hv
    obtain ⟨f, hff⟩ : ∃ f, z.fm = f := ⟨_, rfl⟩
    rw [hff] at hf HU0
    have HF := Lib.hid hf
    have HFF := Lib.hid hff
    have HSL : Hid ((Tryz.prog.info? 57).map (·.size) = some (layV f).length) := Lib.hid (by rw [layV_len hf]; exact size_l)
    have hblen : (buildT z).length = cntN f := by unfold buildT; rw [linesT_len, hff]
    rw [hblen]
    obtain ⟨ct, hct⟩ : ∃ ct, cntN f = ct := ⟨_, rfl⟩
    rw [hct]
    obtain ⟨ls, hls⟩ : ∃ ls, linesT f (tx z) = ls := ⟨_, rfl⟩
    obtain ⟨cm, hcm⟩ : ∃ cm, dgL (cmpT f ls) = cm := ⟨_, rfl⟩
    obtain ⟨bt, hbt⟩ : ∃ bt, buildT z = bt := ⟨_, rfl⟩
    rw [hbt]
    have HCT := Lib.hid hct
    have HLS : Hid (linesT f (tx z) = ls ∧ dgL (cmpT f ls) = cm ∧ ls.length = ct ∧ LinesOf f ls) := Lib.hid ⟨hls, hcm, by rw [← hls, linesT_len, hct], by rw [← hls]; exact lines_of hf _⟩
    have HBT : Hid (linesT f (updT (tx z) 14 cm) = bt) := Lib.hid (by rw [← hbt, ← hcm, ← hls, ← hff]; rfl)
    clear hv hbl hf hff hblen hct hls hcm hbt
    go_enter Tryz.func10, Tryz.ntmps10
    go_wp2_with (first
      | ((with_reducible refine at_box_ (d := 1) ?_); refine wpList_box_v (op := ⟨some 1, _, _, _, _, _⟩) rfl 23 _ rfl us rfl ?_; intro g1 v1b hf hr; replace HO := Lib.hid (HO.out.new hf hr); clear hf hr)
      | ((with_reducible refine at_load_ (d := 8) ?_); refine wpList_load_v (op := ⟨some 8, _, _, _, _, _⟩) rfl 23 _ rfl g1 rfl us _ (HO.out.row (i := 0) rfl) Tryz.underlying23 rfl HSZ.out ?_)
      | (go_at_call 15; ((with_reducible refine (p_zvalidB z 0 HV.out us HU.out HZ.out _ (HM.out.on HO.out.bl)).mono ?_); rintro e w5 ⟨rfl, hb⟩); replace HO := Lib.hid (HO.out.on hb); clear hb)
      | ((with_reducible refine at_load_ (d := 15) ?_); refine wpList_load_c (op := ⟨some 15, _, _, _, _, _⟩) rfl 3 _ rfl g1 0 rfl _ (((HO.out.row (i := 0) rfl).cell 0).trans HU0.out) Tryz.isAgg3 ?_)
      | (go_at_call 28; ((with_reducible refine (layout_of f HF.out _).mono ?_); rintro e w6 ⟨rfl, hb⟩); replace HO := Lib.hid (HO.out.on hb); clear hb)
      | ((with_reducible refine at_alloc_ (d := 5) ?_); refine wpList_alloc_v (op := ⟨some 5, _, _, _, _, _⟩) rfl 57 rfl lay0 info_l ?_; intro g5 v5a hf hr; replace HO := Lib.hid (HO.out.new hf hr); clear hf hr)
      | ((with_reducible refine at_store_ (i := 5) ?_); refine wpList_store_v rfl 57 (.tmp 5) (.tmp 17) rfl g5 lay0 (layV f) rfl rfl (HO.out.row (i := 1) rfl) (by rw [layV_len HF.out]; rfl) (layR_one _ _ _) HSL.out ?_; intro v5s hw hr; replace HO := Lib.hid (HO.out.set (i := 1) rfl hw hr); clear hw hr)
      | ((with_reducible refine at_load_ (d := 19) ?_); refine wpList_load_v (op := ⟨some 19, _, _, _, _, _⟩) rfl 23 _ rfl g1 rfl us _ (HO.out.row (i := 0) rfl) Tryz.underlying23 rfl HSZ.out ?_)
      | ((with_reducible refine at_load_ (d := 20) ?_); refine wpList_load_v (op := ⟨some 20, _, _, _, _, _⟩) rfl 57 _ rfl g5 rfl (layV f) _ (HO.out.row (i := 1) rfl) Tryz.underlying57 rfl HSL.out ?_)
      | (go_at_call 29; ((with_reducible refine (p_textsB z f HFF.out us HU.out HFT.out _ (HM.out.on HO.out.bl)).mono ?_); rintro e w7 ⟨b, n, rfl, hb, hge, hn, hm⟩); have HN := Lib.hid hn; have HO2 := Lib.hid (OwnM.add HO.out hb hge hm); clear hb hge hm hn HO))
    have HN2 := Lib.hid (HN.out)
    refine region_setX (by kernel_rfl) _ (vB f b ct cm) (BldW w [(g1, us), (g5, layV f)] b n (tx z) cm ls) (by kernel_rfl) none (BldW.start (HO2.out.on (below_drewN _ _ 1))) ?_ ?_
    · refine ops_all (allI.cons ?_ (allI.cons ?_ (allI.cons ?_ (allI.cons ?_ (allI.cons ?_ (allI.cons ?_ (allI.cons ?_ allI.nil))))))) <;> intro A S cur a hW hSi hdep hS hC
      · exact o_mv (.tmp 7) rfl (hS.before hC hSi 7 rfl) ⟨A, fun _ _ => rfl, rfl, hW.skip (Below.refl _ _) (by decide) (by decide)⟩
      · exact o_ldv 57 (.tmp 5) rfl g5 (hS.before hC hSi 5 rfl) (layV f) _ (hW.2.2.1.row (i := 1) rfl) Tryz.underlying57 rfl HSL.out ⟨A, fun _ _ => rfl, rfl, hW.skip (Below.refl _ _) (by decide) (by decide)⟩
      · exact o_ldv 57 (.tmp 5) rfl g5 (hS.before hC hSi 5 rfl) (layV f) _ (hW.2.2.1.row (i := 1) rfl) Tryz.underlying57 rfl HSL.out ⟨A, fun _ _ => rfl, rfl, hW.skip (Below.refl _ _) (by decide) (by decide)⟩
      · exact o_mv (.tmp 7) rfl (hS.before hC hSi 7 rfl) ⟨A, fun _ _ => rfl, rfl, hW.skip (Below.refl _ _) (by decide) (by decide)⟩
      · have h6 : S 6 = false := by
          rcases hq : S 6 with _ | _
          · rfl
          · have h5 := dep_at (hC 6 _ rfl hq) 5 rfl
            have h4 := dep_at (hC 5 _ rfl h5) 4 rfl
            rw [h4] at hSi; cases hSi
        have ho := hW.1 h6
        refine o_call2 _ (.tmp 24) (.tmp 25) _ rfl (hS.get 2 (dep_at hdep 2 rfl) rfl rfl) (hS.get 3 (dep_at hdep 3 rfl) rfl rfl) (run_write _ _) (p_writeB f HF.out ct HCT.out b n (tx z) ls HLS.out.1 cur ho.2.1) ?_
        rintro e w' ⟨A', rfl, hs, hb⟩
        refine ⟨_, rfl, A', fun j hj => ?_, rfl, ?_⟩
        · have h0 : j ≠ 4 := fun e => by rw [e] at hj; rw [hj] at hSi; cases hSi
          unfold vB
          rw [if_neg h0, if_neg h0]
        · exact BldW.laid h6 (ho.on hb) hs
      · have h6 : S 6 = false := by
          rcases hq : S 6 with _ | _
          · rfl
          · have h5 := dep_at (hC 6 _ rfl hq) 5 rfl
            rw [h5] at hSi; cases hSi
        refine o_call2 _ (.tmp 23) (.tmp 26) _ rfl (hS.get 1 (dep_at hdep 1 rfl) rfl rfl) (hS.get 4 (dep_at hdep 4 rfl) rfl rfl) (run_comp _ _) (p_compB f HF.out A ct ls HLS.out.2.2.1 cur (HM.out.on hW.2.2.1.bl) (hW.2.2.2 (dep_at hdep 4 rfl) h6) HLS.out.2.2.2) ?_
        rintro e w' ⟨rfl, hb⟩
        exact ⟨_, rfl, A, fun _ _ => rfl, by rw [HLS.out.2.1]; rfl, hW.skip hb (by decide) (by decide)⟩
      · have ho := hW.1 hSi
        refine o_upd (.tmp 22) _ (.tmp 27) rfl b n (tx z) (hS.get 0 (dep_at hdep 0 rfl) rfl rfl) ho.2.1 (by have := HN2.out; omega) 14 (by decide) rfl (Go.Proofs.YtdlcoilpkelbaaaGreatDoor.S cm) cm (hS.get 5 (dep_at hdep 5 rfl) rfl rfl) rfl (by rw [S_size, ← HLS.out.2.1]; have := dgL_le (cmpT f ls); unfold maxLen; omega) ?_
        intro w' h1 h2
        exact ⟨A, fun _ _ => rfl, rfl, BldW.put (ho.upd h1 h2)⟩
    · intro A cur S hall hW
      have HO3 := Lib.hid (hW.2.1 (hall 6 (by decide)))
      have HMM := Lib.hid HO3.out.2.1
      clear hW hall S HO2
      simp only [putAll, Act.put, vB]
      simp
      go_wp2_with (first
      | ((with_reducible refine at_load_ (d := 28) ?_); refine wpList_load_v (op := ⟨some 28, _, _, _, _, _⟩) rfl 57 _ rfl g5 rfl (layV f) _ (HO3.out.1.row (i := 1) rfl) Tryz.underlying57 rfl HSL.out ?_)
      | (go_at_call 31; ((with_reducible refine (p_writeMB f HF.out ct HCT.out b (n + 1) _ bt HBT.out _ HMM.out).mono ?_); rintro e w8 ⟨A2, rfl, hs2, hb2⟩); have HS2 := Lib.hid (show _ ∧ _ from ⟨hs2.up (w := w) HO3.out.bl.size, HO3.out.on hb2⟩); clear hs2 hb2))
      go_ret2
      exact ⟨A2, rfl, HS2.out.1, HS2.out.2.bl⟩
  · have hbl : buildL z = [] := by unfold buildL; rw [if_neg hv]
    rw [hbl]
    obtain ⟨v, hvv⟩ : ∃ v, vE z = v := ⟨_, rfl⟩
    rw [hvv] at hv ⊢
    have d1 : (v == 0) = false := by simpa using hv
    have HV := Lib.hid hvv
    clear hvv hbl
    go_enter Tryz.func10, Tryz.ntmps10
    go_wp2_with (first
      | ((with_reducible refine at_box_ (d := 1) ?_); refine wpList_box_v (op := ⟨some 1, _, _, _, _, _⟩) rfl 23 _ rfl us rfl ?_; intro g1 v1b hf hr; replace HO := Lib.hid (HO.out.new hf hr); clear hf hr)
      | ((with_reducible refine at_load_ (d := 8) ?_); refine wpList_load_v (op := ⟨some 8, _, _, _, _, _⟩) rfl 23 _ rfl g1 rfl us _ (HO.out.row (i := 0) rfl) Tryz.underlying23 rfl HSZ.out ?_)
      | (go_at_call 15; ((with_reducible refine (p_zvalidB z v HV.out us HU.out HZ.out _ (HM.out.on HO.out.bl)).mono ?_); rintro e w5 ⟨rfl, hb⟩); replace HO := Lib.hid (HO.out.on hb); clear hb))
    go_ret2
    exact ⟨none, rfl, ⟨.inl rfl, .inl rfl⟩, HO.out.bl⟩
end Go.Proofs.YtdlcoilpkelbaaaGreatDoor
