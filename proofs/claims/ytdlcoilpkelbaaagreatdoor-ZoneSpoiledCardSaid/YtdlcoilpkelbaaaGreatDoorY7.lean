/-
  What is proved here: the lines of a zone, as the program builds them.
  And: the password of a document, as the program makes it of a zone.
-/
import Derived.Test.YtdlcoilpkelbaaaGreatDoorY6
namespace Go.Proofs.YtdlcoilpkelbaaaGreatDoor
open Go.RowKit Go.Maps
set_option linter.unusedVariables false

theorem OwnM.add {w cur cur' : World} {L : List (Nat × List Value)} {b n : Nat} {T : Nat → List UInt8} (h : Own w cur L) (hb : Below cur.heap.size cur cur') (hge : cur.heap.size ≤ b) (hm : MapIs cur' b n T) : OwnM w cur' L b n T :=
  ⟨h.on hb, hm, Nat.le_trans h.1.size hge, fun i g vs e => by have := (h.row e).lt; omega⟩
theorem p_zvalidB (z : Zn) (v : Int) (hv : vE z = v) (us : List Value) (hus : zV z = us) (hz : Bears z) (w : World) (hM : Mm w) :
    Calls Tryz.prog 15 #[.agg us.toArray] w fun e w' => e = .returned (.int .i64 v) ∧ Below w.heap.size w w' := by
  rw [← hv, ← hus]; exact p_zvalid z hz w hM
theorem p_textsB (z : Zn) (f : Int) (hf : z.fm = f) (us : List Value) (hus : zV z = us) (hz : Fits z) (w : World) (hM : Mm w) :
    Calls Tryz.prog 29 #[.agg us.toArray, .agg (layV f).toArray] w fun e w' => ∃ b n, e = .returned (.map (some b)) ∧ Below w.heap.size w w' ∧ w.heap.size ≤ b ∧ n ≤ 50 ∧ MapIs w' b n (tx z) := by
  rw [← hf, ← hus]; exact p_texts z hz w hM
theorem lines_of {f : Int} (h : 1 ≤ f ∧ f ≤ 3) (T : Nat → List UInt8) : LinesOf f (linesT f T) :=
  ⟨linesT_len f T, fun j hj => by rw [linesT_get f T hj, lineT_len, seg_sum h hj]⟩
theorem p_compB (f : Int) (h : 1 ≤ f ∧ f ≤ 3) (A : Option Addr) (ct : Nat) (ls : List (List UInt8)) (hct : ls.length = ct) (w : World) (hM : Mm w) (hs : Strs w A ls) (hl : LinesOf f ls) :
    Calls Tryz.prog 30 #[.agg (layV f).toArray, .slice A ct ct] w fun e w' => e = .returned (.string (S (dgL (cmpT f ls)))) ∧ Below w.heap.size w w' := by
  rw [← hct]; exact p_comp f h A _ ls w hM hs hl
theorem p_writeB (f : Int) (h : 1 ≤ f ∧ f ≤ 3) (ct : Nat) (hct : cntN f = ct) (mb n : Nat) (T : Nat → List UInt8) (ls : List (List UInt8)) (hls : linesT f T = ls) (w : World) (hm : MapIs w mb n T) :
    Calls Tryz.prog 31 #[.agg (layV f).toArray, .map (some mb)] w fun e w' => ∃ A, e = .returned (.slice A ct ct) ∧ Strs w' A ls ∧ Below w.heap.size w w' := by
  rw [← hct, ← hls]; exact p_write f h mb n T w hm
theorem run_write (vs : Array Value) (w : World) : (callFunc 31 vs).run Tryz.prog w = .ok (.enter 31 vs) w :=
  run_enter (c := _) Tryz.func31 (by decide) rfl vs w
theorem run_comp (vs : Array Value) (w : World) : (callFunc 30 vs).run Tryz.prog w = .ok (.enter 30 vs) w :=
  run_enter (c := _) Tryz.func30 (by decide) rfl vs w
def vB (f : Int) (b ct : Nat) (cm : List UInt8) (A : Option Addr) (i : Nat) : Value := if i = 4 then .slice A ct ct else [Value.map (some b), .agg (layV f).toArray, .agg (layV f).toArray, .map (some b), undef, .string (S cm), undef].getD i undef
def BldW (w : World) (L : List (Nat × List Value)) (b n : Nat) (T : Nat → List UInt8) (cm : List UInt8) (ls : List (List UInt8)) (A : Option Addr) (S : Nat → Bool) (cur : World) : Prop :=
  (S 6 = false → OwnM w cur L b n T) ∧ (S 6 = true → OwnM w cur L b (n + 1) (updT T 14 cm)) ∧ Own w cur L ∧ (S 4 = true → S 6 = false → Strs cur A ls)
theorem BldW.skip {w cur cur' : World} {L : List (Nat × List Value)} {b n : Nat} {T : Nat → List UInt8} {cm : List UInt8} {ls : List (List UInt8)} {A : Option Addr} {S : Nat → Bool} {i : Nat} (h : BldW w L b n T cm ls A S cur) (hb : Below cur.heap.size cur cur') (h6 : i ≠ 6) (h4 : i ≠ 4) : BldW w L b n T cm ls A (fun j => S j || j == i) cur' := by
  obtain ⟨h1, h2, h3, h5⟩ := h
  have e6 : (S 6 || (6 == i)) = S 6 := by simp [Ne.symm h6]
  have e4 : (S 4 || (4 == i)) = S 4 := by simp [Ne.symm h4]
  refine ⟨fun hs => (h1 (by rw [← e6]; exact hs)).on hb, fun hs => (h2 (by rw [← e6]; exact hs)).on hb, h3.on hb, fun hs hs2 => (h5 (by rw [← e4]; exact hs) (by rw [← e6]; exact hs2)).on hb⟩
section
variable {w cur : World} {L : List (Nat × List Value)} {b n : Nat} {T : Nat → List UInt8} {cm : List UInt8} {ls : List (List UInt8)} {A : Option Addr} {S : Nat → Bool}
theorem BldW.start (ho : OwnM w cur L b n T) : BldW w L b n T cm ls A (fun _ => false) cur := ⟨fun _ => ho, fun h => (by cases h), ho.1, fun h => (by cases h)⟩
theorem BldW.laid (h6 : S 6 = false) (ho : OwnM w cur L b n T) (hs : Strs cur A ls) : BldW w L b n T cm ls A (fun j => S j || j == 4) cur := by
  have e6 : (S 6 || (6 == 4)) = false := by rw [h6]; rfl
  exact ⟨fun _ => ho, fun h => absurd (e6.symm.trans h) (by decide), ho.1, fun _ _ => hs⟩
theorem BldW.put (ho : OwnM w cur L b (n + 1) (updT T 14 cm)) : BldW w L b n T cm ls A (fun j => S j || j == 6) cur := by
  have e6 : (S 6 || (6 == 6)) = true := by simp
  exact ⟨fun h => absurd (e6.symm.trans h) (by decide), fun _ => ho, ho.1, fun _ h => absurd (e6.symm.trans h) (by decide)⟩
end
set_option maxHeartbeats 1600000 in
set_option maxRecDepth 20000 in
theorem p_build (z : Zn) (hz : Bears z) (w : World) (hM : Mm w) :
    Calls Tryz.prog 10 #[z.val] w fun e w' => ∃ A, e = .returned (.tuple #[.slice A (buildL z).length (buildL z).length, .int .i64 (vE z)]) ∧ Strs w' A (buildL z) ∧ Below w.heap.size w w' := by
  have HM := Lib.hid hM
  have HZ := Lib.hid hz
  have HO := Lib.hid (Own.start w)
  have e0 : z.val = .agg (zV z).toArray := rfl
  obtain ⟨us, hus⟩ : ∃ us, zV z = us := ⟨_, rfl⟩
  rw [e0, hus]
  have HU := Lib.hid hus
  have HU0 : Hid (us[0]? = some (.int .i64 z.fm)) := Lib.hid (by rw [← hus]; rfl)
  have HSZ : Hid ((Tryz.prog.info? 23).map (·.size) = some us.length) := Lib.hid (by rw [← hus]; kernel_rfl)
  clear e0 hus hM hz
  by_cases hv : vE z = 0
  · have hbl : buildL z = buildT z := by unfold buildL; rw [if_pos hv]
    have HFT := Lib.hid (HZ.out.fits hv)
    have hf := HFT.out.fm
    rw [hv, hbl]
    have HV := Lib.hid hv
    obtain ⟨f, hff⟩ : ∃ f, z.fm = f := ⟨_, rfl⟩
    rw [hff] at hf HU0
    have HF := Lib.hid hf
    have HFF := Lib.hid hff
    have HSL : Hid ((Tryz.prog.info? 57).map (·.size) = some (layV f).length) := Lib.hid (by rw [layV_len hf]; exact size_l)
    have hblen : (buildT z).length = cntN f := by unfold buildT; rw [linesT_len, hff]
    rw [hblen]
    obtain ⟨ct, hct⟩ : ∃ ct, cntN f = ct := ⟨_, rfl⟩
    rw [hct]
    obtain ⟨ls, hls⟩ : ∃ ls, linesT f (tx z) = ls := ⟨_, rfl⟩
    obtain ⟨cm, hcm⟩ : ∃ cm, dgL (cmpT f ls) = cm := ⟨_, rfl⟩
    obtain ⟨bt, hbt⟩ : ∃ bt, buildT z = bt := ⟨_, rfl⟩
    rw [hbt]
    have HCT := Lib.hid hct
    have HLS : Hid (linesT f (tx z) = ls ∧ dgL (cmpT f ls) = cm ∧ ls.length = ct ∧ LinesOf f ls) := Lib.hid ⟨hls, hcm, by rw [← hls, linesT_len, hct], by rw [← hls]; exact lines_of hf _⟩
    have HBT : Hid (linesT f (updT (tx z) 14 cm) = bt) := Lib.hid (by rw [← hbt, ← hcm, ← hls, ← hff]; rfl)
    clear hv hbl hf hff hblen hct hls hcm hbt
    go_enter Tryz.func10, Tryz.ntmps10
    go_wp2_with (first
      | ((with_reducible refine at_box_ (d := 1) ?_); refine wpList_box_v (op := ⟨some 1, _, _, _, _, _⟩) rfl 23 _ rfl us rfl ?_; intro g1 v1b hf hr; replace HO := Lib.hid (HO.out.new hf hr); clear hf hr)
      | ((with_reducible refine at_load_ (d := 8) ?_); refine wpList_load_v (op := ⟨some 8, _, _, _, _, _⟩) rfl 23 _ rfl g1 rfl us _ (HO.out.row (i := 0) rfl) Tryz.underlying23 rfl HSZ.out ?_)
      | (go_at_call 15; ((with_reducible refine (p_zvalidB z 0 HV.out us HU.out HZ.out _ (HM.out.on HO.out.bl)).mono ?_); rintro e w5 ⟨rfl, hb⟩); replace HO := Lib.hid (HO.out.on hb); clear hb)
      | ((with_reducible refine at_load_ (d := 15) ?_); refine wpList_load_c (op := ⟨some 15, _, _, _, _, _⟩) rfl 3 _ rfl g1 0 rfl _ (((HO.out.row (i := 0) rfl).cell 0).trans HU0.out) Tryz.isAgg3 ?_)
      | (go_at_call 28; ((with_reducible refine (layout_of f HF.out _).mono ?_); rintro e w6 ⟨rfl, hb⟩); replace HO := Lib.hid (HO.out.on hb); clear hb)
      | ((with_reducible refine at_alloc_ (d := 5) ?_); refine wpList_alloc_v (op := ⟨some 5, _, _, _, _, _⟩) rfl 57 rfl lay0 info_l ?_; intro g5 v5a hf hr; replace HO := Lib.hid (HO.out.new hf hr); clear hf hr)
      | ((with_reducible refine at_store_ (i := 5) ?_); refine wpList_store_v rfl 57 (.tmp 5) (.tmp 17) rfl g5 lay0 (layV f) rfl rfl (HO.out.row (i := 1) rfl) (by rw [layV_len HF.out]; rfl) (layR_one _ _ _) HSL.out ?_; intro v5s hw hr; replace HO := Lib.hid (HO.out.set (i := 1) rfl hw hr); clear hw hr)
      | ((with_reducible refine at_load_ (d := 19) ?_); refine wpList_load_v (op := ⟨some 19, _, _, _, _, _⟩) rfl 23 _ rfl g1 rfl us _ (HO.out.row (i := 0) rfl) Tryz.underlying23 rfl HSZ.out ?_)
      | ((with_reducible refine at_load_ (d := 20) ?_); refine wpList_load_v (op := ⟨some 20, _, _, _, _, _⟩) rfl 57 _ rfl g5 rfl (layV f) _ (HO.out.row (i := 1) rfl) Tryz.underlying57 rfl HSL.out ?_)
      | (go_at_call 29; ((with_reducible refine (p_textsB z f HFF.out us HU.out HFT.out _ (HM.out.on HO.out.bl)).mono ?_); rintro e w7 ⟨b, n, rfl, hb, hge, hn, hm⟩); have HN := Lib.hid hn; have HO2 := Lib.hid (OwnM.add HO.out hb hge hm); clear hb hge hm hn HO))
    have HN2 := Lib.hid (HN.out)
    refine region_setX (by kernel_rfl) _ (vB f b ct cm) (BldW w [(g1, us), (g5, layV f)] b n (tx z) cm ls) (by kernel_rfl) none (BldW.start (HO2.out.on (below_drewN _ _ 1))) ?_ ?_
    · refine ops_all (allI.cons ?_ (allI.cons ?_ (allI.cons ?_ (allI.cons ?_ (allI.cons ?_ (allI.cons ?_ (allI.cons ?_ allI.nil))))))) <;> intro A S cur a hW hSi hdep hS hC
      · exact o_mv (.tmp 7) rfl (hS.before hC hSi 7 rfl) ⟨A, fun _ _ => rfl, rfl, hW.skip (Below.refl _ _) (by decide) (by decide)⟩
      · exact o_ldv 57 (.tmp 5) rfl g5 (hS.before hC hSi 5 rfl) (layV f) _ (hW.2.2.1.row (i := 1) rfl) Tryz.underlying57 rfl HSL.out ⟨A, fun _ _ => rfl, rfl, hW.skip (Below.refl _ _) (by decide) (by decide)⟩
      · exact o_ldv 57 (.tmp 5) rfl g5 (hS.before hC hSi 5 rfl) (layV f) _ (hW.2.2.1.row (i := 1) rfl) Tryz.underlying57 rfl HSL.out ⟨A, fun _ _ => rfl, rfl, hW.skip (Below.refl _ _) (by decide) (by decide)⟩
      · exact o_mv (.tmp 7) rfl (hS.before hC hSi 7 rfl) ⟨A, fun _ _ => rfl, rfl, hW.skip (Below.refl _ _) (by decide) (by decide)⟩
      · have h6 : S 6 = false := by
          rcases hq : S 6 with _ | _
          · rfl
          · have h5 := dep_at (hC 6 _ rfl hq) 5 rfl
            have h4 := dep_at (hC 5 _ rfl h5) 4 rfl
            rw [h4] at hSi; cases hSi
        have ho := hW.1 h6
        refine o_call2 _ (.tmp 24) (.tmp 25) _ rfl (hS.get 2 (dep_at hdep 2 rfl) rfl rfl) (hS.get 3 (dep_at hdep 3 rfl) rfl rfl) (run_write _ _) (p_writeB f HF.out ct HCT.out b n (tx z) ls HLS.out.1 cur ho.2.1) ?_
        rintro e w' ⟨A', rfl, hs, hb⟩
        refine ⟨_, rfl, A', fun j hj => ?_, rfl, ?_⟩
        · have h0 : j ≠ 4 := fun e => by rw [e] at hj; rw [hj] at hSi; cases hSi
          unfold vB
          rw [if_neg h0, if_neg h0]
        · exact BldW.laid h6 (ho.on hb) hs
      · have h6 : S 6 = false := by
          rcases hq : S 6 with _ | _
          · rfl
          · have h5 := dep_at (hC 6 _ rfl hq) 5 rfl
            rw [h5] at hSi; cases hSi
        refine o_call2 _ (.tmp 23) (.tmp 26) _ rfl (hS.get 1 (dep_at hdep 1 rfl) rfl rfl) (hS.get 4 (dep_at hdep 4 rfl) rfl rfl) (run_comp _ _) (p_compB f HF.out A ct ls HLS.out.2.2.1 cur (HM.out.on hW.2.2.1.bl) (hW.2.2.2 (dep_at hdep 4 rfl) h6) HLS.out.2.2.2) ?_
        rintro e w' ⟨rfl, hb⟩
        exact ⟨_, rfl, A, fun _ _ => rfl, by rw [HLS.out.2.1]; rfl, hW.skip hb (by decide) (by decide)⟩
      · have ho := hW.1 hSi
        refine o_upd (.tmp 22) _ (.tmp 27) rfl b n (tx z) (hS.get 0 (dep_at hdep 0 rfl) rfl rfl) ho.2.1 (by have := HN2.out; omega) 14 (by decide) rfl (Go.Proofs.YtdlcoilpkelbaaaGreatDoor.S cm) cm (hS.get 5 (dep_at hdep 5 rfl) rfl rfl) rfl (by rw [S_size, ← HLS.out.2.1]; have := dgL_le (cmpT f ls); unfold maxLen; omega) ?_
        intro w' h1 h2
        exact ⟨A, fun _ _ => rfl, rfl, BldW.put (ho.upd h1 h2)⟩
    · intro A cur S hall hW
      have HO3 := Lib.hid (hW.2.1 (hall 6 (by decide)))
      have HMM := Lib.hid HO3.out.2.1
      clear hW hall S HO2
      simp only [putAll, Act.put, vB]
      simp
      go_wp2_with (first
      | ((with_reducible refine at_load_ (d := 28) ?_); refine wpList_load_v (op := ⟨some 28, _, _, _, _, _⟩) rfl 57 _ rfl g5 rfl (layV f) _ (HO3.out.1.row (i := 1) rfl) Tryz.underlying57 rfl HSL.out ?_)
      | (go_at_call 31; ((with_reducible refine (p_writeB f HF.out ct HCT.out b (n + 1) _ bt HBT.out _ HMM.out).mono ?_); rintro e w8 ⟨A2, rfl, hs2, hb2⟩); have HS2 := Lib.hid (show _ ∧ _ from ⟨hs2, HO3.out.on hb2⟩); clear hs2 hb2))
      go_ret2
      exact ⟨A2, rfl, HS2.out.1, HS2.out.2.bl⟩
  · have hbl : buildL z = [] := by unfold buildL; rw [if_neg hv]
    rw [hbl]
    obtain ⟨v, hvv⟩ : ∃ v, vE z = v := ⟨_, rfl⟩
    rw [hvv] at hv ⊢
    have d1 : (v == 0) = false := by simpa using hv
    have HV := Lib.hid hvv
    clear hvv hbl
    go_enter Tryz.func10, Tryz.ntmps10
    go_wp2_with (first
      | ((with_reducible refine at_box_ (d := 1) ?_); refine wpList_box_v (op := ⟨some 1, _, _, _, _, _⟩) rfl 23 _ rfl us rfl ?_; intro g1 v1b hf hr; replace HO := Lib.hid (HO.out.new hf hr); clear hf hr)
      | ((with_reducible refine at_load_ (d := 8) ?_); refine wpList_load_v (op := ⟨some 8, _, _, _, _, _⟩) rfl 23 _ rfl g1 rfl us _ (HO.out.row (i := 0) rfl) Tryz.underlying23 rfl HSZ.out ?_)
      | (go_at_call 15; ((with_reducible refine (p_zvalidB z v HV.out us HU.out HZ.out _ (HM.out.on HO.out.bl)).mono ?_); rintro e w5 ⟨rfl, hb⟩); replace HO := Lib.hid (HO.out.on hb); clear hb))
    go_ret2
    exact ⟨none, rfl, .inl rfl, HO.out.bl⟩
end Go.Proofs.YtdlcoilpkelbaaaGreatDoor
namespace Go.Proofs.YtdlcoilpkelbaaaGreatDoor
open Go.RowKit Go.Maps
set_option linter.unusedVariables false

set_option maxHeartbeats 1600000 in
set_option maxRecDepth 20000 in
theorem p_key (z : Zn) (hz : Bears z) (w : World) (hM : Mm w) :
    Calls Tryz.prog 12 #[z.val] w fun e w' => e = .returned (.tuple #[.string (S (keyL z)), .int .i64 (vE z)]) ∧ Below w.heap.size w w' := by
  have HM := Lib.hid hM
  have HZ := Lib.hid hz
  have HO := Lib.hid (Own.start w)
  have e0 : z.val = .agg (zV z).toArray := rfl
  obtain ⟨us, hus⟩ : ∃ us, zV z = us := ⟨_, rfl⟩
  rw [e0, hus]
  have HU := Lib.hid hus
  have HU5 : Hid (us[5]? = some (.string (S z.nu))) := Lib.hid (by rw [← hus]; rfl)
  have HU7 : Hid (us[7]? = some (.string (S z.bi))) := Lib.hid (by rw [← hus]; rfl)
  have HU9 : Hid (us[9]? = some (.string (S z.ex))) := Lib.hid (by rw [← hus]; rfl)
  have HSZ : Hid ((Tryz.prog.info? 23).map (·.size) = some us.length) := Lib.hid (by rw [← hus]; kernel_rfl)
  clear e0 hus hM hz
  by_cases hv : vE z = 0
  · have HFT := Lib.hid (HZ.out.fits hv)
    have hnl := HFT.out.nu
    obtain ⟨N, hN⟩ : ∃ N, S z.nu = N := ⟨_, rfl⟩
    have hNz : N.size ≤ 64 := by rw [← hN, S_size]; exact hnl
    obtain ⟨m, hm⟩ : ∃ m, 9 - N.size = m := ⟨_, rfl⟩
    have hm9 : m ≤ 9 := by omega
    obtain ⟨R, hR⟩ : ∃ R, S (List.replicate m 60) = R := ⟨_, rfl⟩
    have hRz : R.size ≤ 9 := by rw [← hR, S_size, List.length_replicate]; exact hm9
    obtain ⟨W, hW⟩ : ∃ W, N ++ R = W := ⟨_, rfl⟩
    have hWW : W = S (wide9 z.nu) := by
      rw [← hW, ← hR, ← hm, ← hN, S_append, S_size]; rfl
    have hkl : keyL z = wide9 z.nu ++ dgL (wide9 z.nu) ++ (z.bi ++ dgL z.bi) ++ (z.ex ++ dgL z.ex) := by unfold keyL; rw [if_pos hv]
    rw [hN] at HU5
    rw [hv]
    have HV := Lib.hid hv
    have HWW := Lib.hid hWW
    have HW := Lib.hid hW
    have HKL := Lib.hid hkl
    have hWz : W.size ≤ 140737488355328 := by rw [← hW, ByteArray.size_append]; omega
    have hq : max (0 : Int) (9 - (N.size : Int)) = (m : Int) := by omega
    have prep : ∀ w, Calls Tryz.prog 37 #[.string ⟨#[60]⟩, .int .i64 (m : Int)] w fun e w' => e = .returned (.string R) ∧ Below w.heap.size w w' := fun w => by rw [← hR]; exact p_rep m (by omega) w
    obtain ⟨D1, hD1⟩ : ∃ D, S (dgL (wide9 z.nu)) = D := ⟨_, rfl⟩
    obtain ⟨D2, hD2⟩ : ∃ D, S (dgL z.bi) = D := ⟨_, rfl⟩
    obtain ⟨D3, hD3⟩ : ∃ D, S (dgL z.ex) = D := ⟨_, rfl⟩
    obtain ⟨B, hB⟩ : ∃ B, S z.bi = B := ⟨_, rfl⟩
    obtain ⟨E, hE⟩ : ∃ E, S z.ex = E := ⟨_, rfl⟩
    have d1 : D1.size ≤ 1 := by rw [← hD1]; exact dgL_len _
    have d2 : D2.size ≤ 1 := by rw [← hD2]; exact dgL_len _
    have d3 : D3.size ≤ 1 := by rw [← hD3]; exact dgL_len _
    have hBz : B.size ≤ 64 := by rw [← hB, S_size]; exact HFT.out.bi
    have hEz : E.size ≤ 64 := by rw [← hE, S_size]; exact HFT.out.ex
    have hWz2 : W.size ≤ 73 := by rw [← hW, ByteArray.size_append]; omega
    rw [hB] at HU7
    rw [hE] at HU9
    have HPP := Lib.hid prep
    have HD : Hid (∀ w, Mm w → (Calls Tryz.prog 38 #[.string W] w fun e w' => e = .returned (.string D1) ∧ Below w.heap.size w w') ∧ (Calls Tryz.prog 38 #[.string B] w fun e w' => e = .returned (.string D2) ∧ Below w.heap.size w w') ∧ Calls Tryz.prog 38 #[.string E] w fun e w' => e = .returned (.string D3) ∧ Below w.heap.size w w') := Lib.hid (fun w hM => ⟨by rw [← hD1]; exact p_dig W _ hWW w hWz hM, by rw [← hD2, ← hB]; exact p_dig (S z.bi) z.bi rfl w (by rw [hB]; omega) hM, by rw [← hD3, ← hE]; exact p_dig (S z.ex) z.ex rfl w (by rw [hE]; omega) hM⟩)
    have HS : Hid (W ++ D1 ++ B ++ D2 ++ E ++ D3 = S (keyL z)) := Lib.hid (by
      rw [hkl, hWW, ← hD1, ← hD2, ← hD3, ← hB, ← hE, S_append, S_append, S_append, S_append, S_append]
      simp only [List.append_assoc])
    clear hv hkl hWW hW hN hR prep hD1 hD2 hD3 hB hE hm hWz HWW HKL
    go_enter Tryz.func12, Tryz.ntmps12
    go_wp2_with (first
      | ((with_reducible refine at_box_ (d := 1) ?_); refine wpList_box_v (op := ⟨some 1, _, _, _, _, _⟩) rfl 23 _ rfl us rfl ?_; intro g1 v1b hf hr; replace HO := Lib.hid (HO.out.new hf hr); clear hf hr)
      | ((with_reducible refine at_load_ (d := 6) ?_); refine wpList_load_v (op := ⟨some 6, _, _, _, _, _⟩) rfl 23 _ rfl g1 rfl us _ (HO.out.row (i := 0) rfl) Tryz.underlying23 rfl HSZ.out ?_)
      | (go_at_call 15; ((with_reducible refine (p_zvalidB z 0 HV.out us HU.out HZ.out _ (HM.out.on HO.out.bl)).mono ?_); rintro e w5 ⟨rfl, hb⟩); replace HO := Lib.hid (HO.out.on hb); clear hb))
    have q1 := HO.out.qup fun w' hb => HPP.out w'
    have l5 := (HO.out.row (i := 0) rfl).quiet (k := 5) HU5.out
    refine wp_region_quiet_below (by kernel_rfl) (by kernel_rfl) ?_
    repeat (first | go_big_quiet_skip | (go_big_quiet_want; go_big_quiet_op; go_big_quiet_on) | quiet_step (first | with_reducible exact q1 _ _))
    refine wpQuiet_nil ?_
    intro w6 hw6
    replace HO := Lib.hid (HO.out.on (below_of_regrown hw6))
    clear hw6 q1 l5
    rw [HW.out]
    go_wp2_with fail
    have q1 := HO.out.qup fun w' hb => (HD.out w' ((HM.out.on HO.out.bl).on hb)).1
    have q2 := HO.out.qup fun w' hb => (HD.out w' ((HM.out.on HO.out.bl).on hb)).2.1
    have q3 := HO.out.qup fun w' hb => (HD.out w' ((HM.out.on HO.out.bl).on hb)).2.2
    have l7 := (HO.out.row (i := 0) rfl).quiet (k := 7) HU7.out
    have l9 := (HO.out.row (i := 0) rfl).quiet (k := 9) HU9.out
    refine wp_region_quiet_below (by kernel_rfl) (by kernel_rfl) ?_
    repeat (first | go_big_quiet_skip | (go_big_quiet_want; go_big_quiet_op; go_big_quiet_on) | quiet_step (first | with_reducible exact q1 _ _ | with_reducible exact q2 _ _ | with_reducible exact q3 _ _))
    refine wpQuiet_nil ?_
    intro w7 hw7
    replace HO := Lib.hid (HO.out.on (below_of_regrown hw7))
    clear hw7 q1 q2 q3 l7 l9
    go_wp2
    go_ret2
    exact ⟨by rw [← HS.out]; rfl, HO.out.bl⟩
  · have hbl : keyL z = [] := by unfold keyL; rw [if_neg hv]
    rw [hbl]
    obtain ⟨v, hvv⟩ : ∃ v, vE z = v := ⟨_, rfl⟩
    rw [hvv] at hv ⊢
    have d1 : (v == 0) = false := by simpa using hv
    have HV := Lib.hid hvv
    clear hvv hbl
    go_enter Tryz.func12, Tryz.ntmps12
    go_wp2_with (first
      | ((with_reducible refine at_box_ (d := 1) ?_); refine wpList_box_v (op := ⟨some 1, _, _, _, _, _⟩) rfl 23 _ rfl us rfl ?_; intro g1 v1b hf hr; replace HO := Lib.hid (HO.out.new hf hr); clear hf hr)
      | ((with_reducible refine at_load_ (d := 6) ?_); refine wpList_load_v (op := ⟨some 6, _, _, _, _, _⟩) rfl 23 _ rfl g1 rfl us _ (HO.out.row (i := 0) rfl) Tryz.underlying23 rfl HSZ.out ?_)
      | (go_at_call 15; ((with_reducible refine (p_zvalidB z v HV.out us HU.out HZ.out _ (HM.out.on HO.out.bl)).mono ?_); rintro e w5 ⟨rfl, hb⟩); replace HO := Lib.hid (HO.out.on hb); clear hb))
    go_ret2
    exact ⟨rfl, HO.out.bl⟩
end Go.Proofs.YtdlcoilpkelbaaaGreatDoor
