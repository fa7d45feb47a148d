/-
  What is proved here: for keys and initial vectors of 16 bytes that are made of any bytes, and padded bytes: Seal returns what the reference returns, and Open and Seal lead back, in both orders (the statement ModesSealsMade); no condition.
-/
import Derived.Test.YtddobbigpoplpaaOp5
import Derived.Test.YtddobbigpoplpaaMq
namespace Go.Proofs.Ytddobbigpoplpaa.modesSealsMade
open Go.ChangeShapes Go.WideShapes Go.ChangeAt Go.RowKit
open Go.ChangeMaps (open_string shut_string)
set_option linter.unusedVariables false

set_option maxRecDepth 40000 in
set_option maxHeartbeats 1000000 in
theorem walk (A0 : Option Addr) (c0 : Nat) (x0 : List UInt8) (A1 : Option Addr) (c1 : Nat) (x1 : List UInt8) (A2 : Option Addr) (c2 : Nat) (x2 : List UInt8) (w : World) (h0 : Sees w w.heap.size A0 (Us x0)) (m0 : x0.length ≤ 140737488351232) (n0 : A0 = none → c0 = 0) (l0 : x0.length ≤ c0) (h1 : Sees w w.heap.size A1 (Us x1)) (m1 : x1.length ≤ 140737488351232) (n1 : A1 = none → c1 = 0) (l1 : x1.length ≤ c1) (h2 : Sees w w.heap.size A2 (Us x2)) (m2 : x2.length ≤ 140737488351232) (n2 : A2 = none → c2 = 0) (l2 : x2.length ≤ c2) :
    Calls Try.prog 11 #[.slice A0 x0.length c0, .slice A1 x1.length c1, .slice A2 x2.length c2] w fun e w' => e = .returned (.bool true) ∧ Below w.heap.size w w' := by
  have H0 := Lib.hid (SeesP.iff_sees.2 h0)
  have H1 := Lib.hid (SeesP.iff_sees.2 h1)
  have H2 := Lib.hid (SeesP.iff_sees.2 h2)
  have HB := Lib.hid (Below.refl w.heap.size w)
  have HA := Lib.hid (show _ ∧ _ ∧ _ from ⟨n0, n1, n2⟩)
  obtain ⟨N0, hN0⟩ : ∃ N, N = x0.length := ⟨_, rfl⟩
  obtain ⟨N1, hN1⟩ : ∃ N, N = x1.length := ⟨_, rfl⟩
  obtain ⟨N2, hN2⟩ : ∃ N, N = x2.length := ⟨_, rfl⟩
  obtain ⟨q, hq⟩ : ∃ q, q = sxL x0 := ⟨_, rfl⟩
  obtain ⟨v, hv⟩ : ∃ v, v = sxL x1 := ⟨_, rfl⟩
  obtain ⟨p, hp⟩ : ∃ p, p = padM x2 := ⟨_, rfl⟩
  obtain ⟨K, hK⟩ : ∃ K, K = p.length := ⟨_, rfl⟩
  obtain ⟨S, hS⟩ : ∃ S, S = sealB q v p := ⟨_, rfl⟩
  obtain ⟨O, hO⟩ : ∃ O, O = openB q v p := ⟨_, rfl⟩
  have hql : q.length = 16 := by rw [hq]; exact sxL_length _
  have hvl : v.length = 16 := by rw [hv]; exact sxL_length _
  have hpw : p.length % 16 = 0 := by rw [hp]; exact padM_whole _
  have HQ := Lib.hid (show q.length = 16 ∧ v.length = 16 ∧ p.length = K ∧ K % 16 = 0 ∧ K ≤ 140737488351300 from ⟨hql, hvl, hK.symm, by rw [hK]; exact hpw, by rw [hK, hp, padM_length]; omega⟩)
  have HO := Lib.hid (show openB q v S = p ∧ S.length = K ∧ sealB q v O = p ∧ O.length = K from by
    have a := open_seal_all hql hvl hpw
    have b := seal_open_all hql hvl hpw
    rw [← hS] at a
    rw [← hO] at b
    exact ⟨a.1, by rw [a.2, hK], b.1, by rw [b.2, hK]⟩)
  rw [← hN0, ← hN1, ← hN2]
  have HM := Lib.hid (show N0 ≤ 140737488351232 ∧ N1 ≤ 140737488351232 ∧ N2 ≤ 140737488351300 from ⟨by omega, by omega, by omega⟩)
  have HE := Lib.hid (show x0.length = N0 ∧ x1.length = N1 ∧ x2.length = N2 ∧ sxL x0 = q ∧ sxL x1 = v ∧ padM x2 = p ∧ sealB q v p = S ∧ openB q v p = O ∧ vE 16 16 K = 0 from ⟨hN0.symm, hN1.symm, hN2.symm, hq.symm, hv.symm, hp.symm, hS.symm, hO.symm, vE_16 (by rw [hK]; exact hpw)⟩)
  clear h0 h1 h2 n0 n1 n2 l0 l1 l2 m0 m1 m2 hN0 hN1 hN2 hS hO hK hq hv hp hql hvl hpw
  go_enter Try.func11, Try.ntmps11
  go_wp2_with (first
    | (go_at_call 24; ((with_reducible refine (same_yes HQ.out.2.2.1 HQ.out.2.2.2.2 HU.out HP.out).mono ?_); rintro e w12 ⟨rfl, hb⟩); replace HB := Lib.hid (below_on HB.out hb); clear hb)
    | (go_at_call 24; ((with_reducible refine (same_yes HQ.out.2.2.1 HQ.out.2.2.2.2 HZ.out HP.out).mono ?_); rintro e w11 ⟨rfl, hb⟩); replace HP := Lib.hid (HP.out.on hb); replace HU := Lib.hid (HU.out.on hb); replace HB := Lib.hid (below_on HB.out hb); clear HZ; clear hb)
    | (go_at_call 24; ((with_reducible refine (same_yes HO.out.2.1 HQ.out.2.2.2.2 HX.out HY.out).mono ?_); rintro e w10 ⟨rfl, hb⟩); replace HP := Lib.hid (HP.out.on hb); replace HZ := Lib.hid (HZ.out.on hb); replace HU := Lib.hid (HU.out.on hb); replace HB := Lib.hid (below_on HB.out hb); clear HX; clear hb)
    | (go_at_call 33; ((with_reducible refine (awake6 _).mono ?_); rintro e w9 ⟨rfl, hb⟩); replace HP := Lib.hid (HP.out.on hb); replace HX := Lib.hid (HX.out.on hb); replace HY := Lib.hid (HY.out.on hb); replace HZ := Lib.hid (HZ.out.on hb); replace HU := Lib.hid (HU.out.on hb); replace HB := Lib.hid (below_on HB.out hb); clear hb)
    | (go_at_call 35; ((with_reducible refine (seal_n HQ.out.1 HQ.out.2.1 HO.out.2.2.2 HQ.out.2.2.2.1 HQ.out.2.2.2.2 HWC.out H3.out H4.out HW.out).mono ?_); rintro e w8 ⟨B8, e8, rfl, hc, hs, hb⟩); replace HP := Lib.hid (HP.out.on hb); replace HX := Lib.hid (HX.out.on hb); replace HY := Lib.hid (HY.out.on hb); replace HZ := Lib.hid (HZ.out.on hb); replace HB := Lib.hid (below_on HB.out hb); rw [HO.out.2.2.1] at hs; have HU := Lib.hid hs; clear hs hc; clear hb)
    | (go_at_call 37; ((with_reducible refine (open_n HQ.out.1 HQ.out.2.1 HQ.out.2.2.1 HQ.out.2.2.2.1 HQ.out.2.2.2.2 HPC.out H3.out H4.out HP.out).mono ?_); rintro e w7 ⟨B7, e7, rfl, hc, hs, hb⟩); replace H3 := Lib.hid (H3.out.on hb); replace H4 := Lib.hid (H4.out.on hb); replace HP := Lib.hid (HP.out.on hb); replace HX := Lib.hid (HX.out.on hb); replace HY := Lib.hid (HY.out.on hb); replace HZ := Lib.hid (HZ.out.on hb); replace HB := Lib.hid (below_on HB.out hb); rw [HE.out.2.2.2.2.2.2.2.1] at hs; have HW := Lib.hid hs; have HWC := Lib.hid hc; clear hs hc; clear hb)
    | (go_at_call 37; ((with_reducible refine (open_n HQ.out.1 HQ.out.2.1 HO.out.2.1 HQ.out.2.2.2.1 HQ.out.2.2.2.2 HXC.out H3.out H4.out HX.out).mono ?_); rintro e w6 ⟨B6, e6, rfl, hc, hs, hb⟩); replace H3 := Lib.hid (H3.out.on hb); replace H4 := Lib.hid (H4.out.on hb); replace HP := Lib.hid (HP.out.on hb); replace HX := Lib.hid (HX.out.on hb); replace HY := Lib.hid (HY.out.on hb); replace HB := Lib.hid (below_on HB.out hb); rw [HO.out.1] at hs; have HZ := Lib.hid hs; clear hs hc; clear hb)
    | (go_at_call 36; ((with_reducible refine (seal_rg HQ.out.1 HQ.out.2.1 HQ.out.2.2.1 HE.out.2.2.2.2.2.2.2.2 HE.out.2.2.2.2.2.2.1 HO.out.2.1 n16l n16l HQ.out.2.2.2.2 H3.out H4.out HP.out).mono ?_); rintro e w5 ⟨B5, e5, rfl, hs, hb⟩); replace H3 := Lib.hid (H3.out.on hb); replace H4 := Lib.hid (H4.out.on hb); replace HP := Lib.hid (HP.out.on hb); replace HX := Lib.hid (HX.out.on hb); replace HB := Lib.hid (below_on HB.out hb); have HY := Lib.hid hs; clear hs; clear hb)
    | (go_at_call 35; ((with_reducible refine (seal_n HQ.out.1 HQ.out.2.1 HQ.out.2.2.1 HQ.out.2.2.2.1 HQ.out.2.2.2.2 HPC.out H3.out H4.out HP.out).mono ?_); rintro e w4 ⟨B4, e4, rfl, hc, hs, hb⟩); replace H3 := Lib.hid (H3.out.on hb); replace H4 := Lib.hid (H4.out.on hb); replace HP := Lib.hid (HP.out.on hb); replace HB := Lib.hid (below_on HB.out hb); rw [HE.out.2.2.2.2.2.2.1] at hs; have HX := Lib.hid hs; have HXC := Lib.hid hc; clear hs hc; clear hb)
    | (go_at_call 32; ((with_reducible refine (pad_r HE.out.2.2.1 HE.out.2.2.2.2.2.1 HQ.out.2.2.1 HM.out.2.2 HA.out.2.2 H2.out).mono ?_); rintro e w3 ⟨B3, e3, rfl, hc, hn, hs, hb⟩); replace H3 := Lib.hid (H3.out.on hb); replace H4 := Lib.hid (H4.out.on hb); replace HB := Lib.hid (below_on HB.out hb); have HP := Lib.hid hs; have HPC := Lib.hid hc; clear hs hc hn; clear hb)
    | (go_at_call 39; ((with_reducible refine (sixteen6 HE.out.2.1 HE.out.2.2.2.2.1 HM.out.2.1 HA.out.2.1 H1.out).mono ?_); rintro e w2 ⟨B2, e2, rfl, hs, hb⟩); replace H2 := Lib.hid (H2.out.on hb); replace H3 := Lib.hid (H3.out.on hb); replace HB := Lib.hid (below_on HB.out hb); have H4 := Lib.hid hs; clear hs; clear hb)
    | (go_at_call 39; ((with_reducible refine (sixteen6 HE.out.1 HE.out.2.2.2.1 HM.out.1 HA.out.1 H0.out).mono ?_); rintro e w1 ⟨B1, e1, rfl, hs, hb⟩); replace H1 := Lib.hid (H1.out.on hb); replace H2 := Lib.hid (H2.out.on hb); replace HB := Lib.hid (below_on HB.out hb); have H3 := Lib.hid hs; clear hs; clear hb))
  go_ret
  exact ⟨rfl, HB.out⟩

/-! ### the given statement, out of the walk -/
set_option maxRecDepth 100000 in
theorem lifted (os : Os) (started : os.Started) (H : Type) (enc : TypeId × Value → H) :
    ReturnsInHanded {} Try.checked os 11 .any (Rows.modesSealsMadeSpec.pre6 enc Try.prog Try.f11 Rows.modesSealsMadeRow.domain false) (Rows.modesSealsMadeSpec.post enc Try.prog Try.f11 false true false false) := by
  refine returnsInHanded_of_change_sized (C := Try.checked) own started (by kernel_rfl) Try.func11
    (ChangeSpec.witness6 (enc := enc) (C := Try.checked) false ⟨#[], #[.slice none 0 0, .slice none 0 0, .slice none 0 0], []⟩ 8 (by kernel_rfl) (by kernel_rfl) (by kernel_rfl) (by kernel_rfl)) ?_
  intro W base args ds gs before hval0 hW hcnd hsz0 _
  have hsz : (DataW.weightsEach Try.prog (Try.f11.params.toList ++ Rows.modesSealsMadeSpec.plain.varTypes Try.prog) (ds ++ gs)).all (· ≤ reachBytes) = true := hsz0
  have hval : ∀ (j : Nat) t v, Try.f11.params[j]? = some t → args[j]? = some v → Value.okWide Try.prog W .any base t v := hval0
  have hW' := hW
  obtain ⟨p, q, hA0, hV, rfl, hfz, hnd⟩ := hW
  have hA : DataW.TrodAll enc Try.prog W 0 (fun _ => true) true Try.f11.params.toList args.toList ds p := hA0
  rw [Try.params11] at hA hval hsz
  obtain ⟨v0, vs0, d0, ds0, p0, q0, hargs, rfl, rfl, h0, r0⟩ := trodAll_cons hA
  obtain ⟨v1, vs1, d1, ds1, p1, q1, rfl, rfl, rfl, h1, r1⟩ := trodAll_cons r0
  obtain ⟨v2, vs2, d2, ds2, p2, q2, rfl, rfl, rfl, h2, r2⟩ := trodAll_cons r1
  obtain ⟨rfl, rfl, rfl⟩ := trodAll_nil r2
  obtain rfl : args = #[v0, v1, v2] := by cases args; simp_all
  obtain ⟨rfl, rfl⟩ := trodVars_none hV
  obtain ⟨a0, len0, cap0, rfl⟩ := okWide_slice Try.underlying26 (hval 0 26 v0 rfl rfl)
  have lt0 : ∀ x ∈ p0, x.block < W.heap.size := by obtain ⟨m, hm⟩ := h0; exact DataW.trod_lt m _ _ _ hm
  obtain ⟨x0, rfl, see0, hl0, nn0, hc0⟩ := open_u8s h0 lt0
  have m0 := reach_u8s hsz (j := 0) rfl rfl hl0 hc0
  obtain ⟨a1, len1, cap1, rfl⟩ := okWide_slice Try.underlying26 (hval 1 26 v1 rfl rfl)
  have lt1 : ∀ x ∈ p1, x.block < W.heap.size := by obtain ⟨m, hm⟩ := h1; exact DataW.trod_lt m _ _ _ hm
  obtain ⟨x1, rfl, see1, hl1, nn1, hc1⟩ := open_u8s h1 lt1
  have m1 := reach_u8s hsz (j := 1) rfl rfl hl1 hc1
  obtain ⟨a2, len2, cap2, rfl⟩ := okWide_slice Try.underlying26 (hval 2 26 v2 rfl rfl)
  have lt2 : ∀ x ∈ p2, x.block < W.heap.size := by obtain ⟨m, hm⟩ := h2; exact DataW.trod_lt m _ _ _ hm
  obtain ⟨x2, rfl, see2, hl2, nn2, hc2⟩ := open_u8s h2 lt2
  have m2 := reach_u8s hsz (j := 2) rfl rfl hl2 hc2
  clear hA0 hval0
  refine (walk a0 cap0 x0 a1 cap1 x1 a2 cap2 x2 W see0 m0 nn0 hl0 see1 m1 nn1 hl1 see2 m2 nn2 hl2).mono fun e W' ⟨he, bel⟩ => ?_
  subst he
  exact ⟨_, rfl, _, _, _, [], _, [], hW', trodAll_mk1 (shut_bool Try.underlying4 _), (trodAll_cons_mk (Below.trod laidOut (by kernel_rfl) (of_decide_eq_true (by kernel_rfl)) h0 bel lt0) (trodAll_cons_mk (Below.trod laidOut (by kernel_rfl) (of_decide_eq_true (by kernel_rfl)) h1 bel lt1) (trodAll_cons_mk (Below.trod laidOut (by kernel_rfl) (of_decide_eq_true (by kernel_rfl)) h2 bel lt2) trodAll_mk0))), rfl, bel.frame _, fun h => by cases h⟩

theorem proved : Rows.ModesSealsMadeSaid :=
  OpenClaim.holds_of_wide 11 Try.f11 rfl rfl rfl rfl rfl rfl rfl ⟨rfl, rfl, rfl, rfl, rfl⟩ rfl rfl rfl rfl rfl (by kernel_rfl) Try.func11 (by kernel_rfl)
    (of_decide_eq_true (by kernel_rfl)) (by unfold Func.isWrapper; first | (rw [if_pos (by decide +kernel)]; kernel_rfl) | (rw [if_neg (by decide +kernel)]; exact ⟨rfl, rfl⟩))
    (fun os started H enc _ => lifted os started H enc)
end Go.Proofs.Ytddobbigpoplpaa.modesSealsMade
