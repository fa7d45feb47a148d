/-
  What is proved here: what Seal and Open return for any bytes is what the reference returns (the statement ModesSeals); no condition.
-/
import Derived.Test.YtddobbigpoplpaaOp5
import Derived.Test.YtddobbigpoplpaaMq
namespace Go.Proofs.Ytddobbigpoplpaa.modesSeals
open Go.ChangeShapes Go.WideShapes Go.ChangeAt Go.RowKit
open Go.ChangeMaps (open_string shut_string)
set_option linter.unusedVariables false

set_option maxRecDepth 40000 in
set_option maxHeartbeats 1000000 in
theorem walk (A0 : Option Addr) (c0 : Nat) (x0 : List UInt8) (A1 : Option Addr) (c1 : Nat) (x1 : List UInt8) (A2 : Option Addr) (c2 : Nat) (x2 : List UInt8) (w : World) (h0 : Sees w w.heap.size A0 (Us x0)) (m0 : x0.length ≤ 140737488351232) (n0 : A0 = none → c0 = 0) (l0 : x0.length ≤ c0) (h1 : Sees w w.heap.size A1 (Us x1)) (m1 : x1.length ≤ 140737488351232) (n1 : A1 = none → c1 = 0) (l1 : x1.length ≤ c1) (h2 : Sees w w.heap.size A2 (Us x2)) (m2 : x2.length ≤ 140737488351232) (n2 : A2 = none → c2 = 0) (l2 : x2.length ≤ c2) :
    Calls Try.prog 10 #[.slice A0 x0.length c0, .slice A1 x1.length c1, .slice A2 x2.length c2] w fun e w' => e = .returned (.bool true) ∧ Below w.heap.size w w' := by
  have H0 := Lib.hid (SeesP.iff_sees.2 h0)
  have H1 := Lib.hid (SeesP.iff_sees.2 h1)
  have H2 := Lib.hid (SeesP.iff_sees.2 h2)
  have HB := Lib.hid (Below.refl w.heap.size w)
  obtain ⟨N0, hN0⟩ : ∃ N, N = x0.length := ⟨_, rfl⟩
  obtain ⟨N1, hN1⟩ : ∃ N, N = x1.length := ⟨_, rfl⟩
  obtain ⟨N2, hN2⟩ : ∃ N, N = x2.length := ⟨_, rfl⟩
  obtain ⟨S, hS⟩ : ∃ S, S = sealB x0 x1 x2 := ⟨_, rfl⟩
  obtain ⟨O, hO⟩ : ∃ O, O = openB x0 x1 x2 := ⟨_, rfl⟩
  obtain ⟨K, hK⟩ : ∃ K, K = S.length := ⟨_, rfl⟩
  obtain ⟨J, hJ⟩ : ∃ J, J = O.length := ⟨_, rfl⟩
  have HKM := Lib.hid (show K ≤ 140737488351300 by have := sealB_le x0 x1 x2; rw [hK, hS]; omega)
  have HJM := Lib.hid (show J ≤ 140737488351300 by have := openB_le x0 x1 x2; rw [hJ, hO]; omega)
  rw [← hN0, ← hN1, ← hN2]
  obtain ⟨E, hE⟩ : ∃ E, E = vE N0 N1 N2 := ⟨_, rfl⟩
  have HM := Lib.hid (show N0 ≤ 140737488351300 ∧ N1 ≤ 140737488351300 ∧ N2 ≤ 140737488351300 ∧ N2 ≤ c2 from ⟨by omega, by omega, by omega, by omega⟩)
  have HE := Lib.hid (show x0.length = N0 ∧ x1.length = N1 ∧ x2.length = N2 ∧ vE N0 N1 N2 = E ∧ sealB x0 x1 x2 = S ∧ openB x0 x1 x2 = O ∧ S.length = K ∧ O.length = J from ⟨hN0.symm, hN1.symm, hN2.symm, hE.symm, hS.symm, hO.symm, hK.symm, hJ.symm⟩)
  clear h0 h1 h2 n0 n1 n2 l0 l1 l2 m0 m1 m2 hN0 hN1 hN2 hS hO hK hJ hE
  go_enter Try.func10, Try.ntmps10
  go_wp2_with (first
    | (go_at_call 24; ((with_reducible refine (same_yes HE.out.2.2.2.2.2.2.2 HJM.out HZ.out HW.out).mono ?_); rintro e w7 ⟨rfl, hb⟩); replace HB := Lib.hid (below_on HB.out hb); clear hb)
    | (go_at_call 24; ((with_reducible refine (same_yes HE.out.2.2.2.2.2.2.1 HKM.out HX.out HY.out).mono ?_); rintro e w6 ⟨rfl, hb⟩); replace HZ := Lib.hid (HZ.out.on hb); replace HW := Lib.hid (HW.out.on hb); replace HB := Lib.hid (below_on HB.out hb); clear HX; clear hb)
    | (go_at_call 33; ((with_reducible refine (awake6 _).mono ?_); rintro e w5 ⟨rfl, hb⟩); replace HX := Lib.hid (HX.out.on hb); replace HY := Lib.hid (HY.out.on hb); replace HZ := Lib.hid (HZ.out.on hb); replace HW := Lib.hid (HW.out.on hb); replace HB := Lib.hid (below_on HB.out hb); clear hb)
    | (go_at_call 38; ((with_reducible refine (open_rg HE.out.1 HE.out.2.1 HE.out.2.2.1 HE.out.2.2.2.1 HE.out.2.2.2.2.2.1 HE.out.2.2.2.2.2.2.2 HM.out.1 HM.out.2.1 HM.out.2.2.1 HM.out.2.2.2 H0.out H1.out H2.out).mono ?_); rintro e w4 ⟨B4, e4, rfl, hs, hb⟩); replace HX := Lib.hid (HX.out.on hb); replace HY := Lib.hid (HY.out.on hb); replace HZ := Lib.hid (HZ.out.on hb); replace HB := Lib.hid (below_on HB.out hb); have HW := Lib.hid hs; clear hs; clear hb)
    | (go_at_call 37; ((with_reducible refine (open_pg HE.out.1 HE.out.2.1 HE.out.2.2.1 HE.out.2.2.2.1 HE.out.2.2.2.2.2.1 HE.out.2.2.2.2.2.2.2 HM.out.1 HM.out.2.1 HM.out.2.2.1 HM.out.2.2.2 H0.out H1.out H2.out).mono ?_); rintro e w3 ⟨B3, e3, rfl, hs, hb⟩); replace H0 := Lib.hid (H0.out.on hb); replace H1 := Lib.hid (H1.out.on hb); replace H2 := Lib.hid (H2.out.on hb); replace HX := Lib.hid (HX.out.on hb); replace HY := Lib.hid (HY.out.on hb); replace HB := Lib.hid (below_on HB.out hb); have HZ := Lib.hid hs; clear hs; clear hb)
    | (go_at_call 36; ((with_reducible refine (seal_rg HE.out.1 HE.out.2.1 HE.out.2.2.1 HE.out.2.2.2.1 HE.out.2.2.2.2.1 HE.out.2.2.2.2.2.2.1 HM.out.1 HM.out.2.1 HM.out.2.2.1 H0.out H1.out H2.out).mono ?_); rintro e w2 ⟨B2, e2, rfl, hs, hb⟩); replace H0 := Lib.hid (H0.out.on hb); replace H1 := Lib.hid (H1.out.on hb); replace H2 := Lib.hid (H2.out.on hb); replace HX := Lib.hid (HX.out.on hb); replace HB := Lib.hid (below_on HB.out hb); have HY := Lib.hid hs; clear hs; clear hb)
    | (go_at_call 35; ((with_reducible refine (seal_pg HE.out.1 HE.out.2.1 HE.out.2.2.1 HE.out.2.2.2.1 HE.out.2.2.2.2.1 HE.out.2.2.2.2.2.2.1 HM.out.1 HM.out.2.1 HM.out.2.2.1 HM.out.2.2.2 H0.out H1.out H2.out).mono ?_); rintro e w1 ⟨B1, e1, rfl, hs, hb⟩); replace H0 := Lib.hid (H0.out.on hb); replace H1 := Lib.hid (H1.out.on hb); replace H2 := Lib.hid (H2.out.on hb); replace HB := Lib.hid (below_on HB.out hb); have HX := Lib.hid hs; clear hs; clear hb))
  go_ret
  exact ⟨rfl, HB.out⟩

/-! ### the given statement, out of the walk -/
set_option maxRecDepth 100000 in
theorem lifted (os : Os) (started : os.Started) (H : Type) (enc : TypeId × Value → H) :
    ReturnsInHanded {} Try.checked os 10 .any (Rows.modesSealsSpec.pre6 enc Try.prog Try.f10 Rows.modesSealsRow.domain false) (Rows.modesSealsSpec.post enc Try.prog Try.f10 false true false false) := by
  refine returnsInHanded_of_change_sized (C := Try.checked) own started (by kernel_rfl) Try.func10
    (ChangeSpec.witness6 (enc := enc) (C := Try.checked) false ⟨#[], #[.slice none 0 0, .slice none 0 0, .slice none 0 0], []⟩ 8 (by kernel_rfl) (by kernel_rfl) (by kernel_rfl) (by kernel_rfl)) ?_
  intro W base args ds gs before hval0 hW hcnd hsz0 _
  have hsz : (DataW.weightsEach Try.prog (Try.f10.params.toList ++ Rows.modesSealsSpec.plain.varTypes Try.prog) (ds ++ gs)).all (· ≤ reachBytes) = true := hsz0
  have hval : ∀ (j : Nat) t v, Try.f10.params[j]? = some t → args[j]? = some v → Value.okWide Try.prog W .any base t v := hval0
  have hW' := hW
  obtain ⟨p, q, hA0, hV, rfl, hfz, hnd⟩ := hW
  have hA : DataW.TrodAll enc Try.prog W 0 (fun _ => true) true Try.f10.params.toList args.toList ds p := hA0
  rw [Try.params10] at hA hval hsz
  obtain ⟨v0, vs0, d0, ds0, p0, q0, hargs, rfl, rfl, h0, r0⟩ := trodAll_cons hA
  obtain ⟨v1, vs1, d1, ds1, p1, q1, rfl, rfl, rfl, h1, r1⟩ := trodAll_cons r0
  obtain ⟨v2, vs2, d2, ds2, p2, q2, rfl, rfl, rfl, h2, r2⟩ := trodAll_cons r1
  obtain ⟨rfl, rfl, rfl⟩ := trodAll_nil r2
  obtain rfl : args = #[v0, v1, v2] := by cases args; simp_all
  obtain ⟨rfl, rfl⟩ := trodVars_none hV
  obtain ⟨a0, len0, cap0, rfl⟩ := okWide_slice Try.underlying26 (hval 0 26 v0 rfl rfl)
  have lt0 : ∀ x ∈ p0, x.block < W.heap.size := by obtain ⟨m, hm⟩ := h0; exact DataW.trod_lt m _ _ _ hm
  obtain ⟨x0, rfl, see0, hl0, nn0, hc0⟩ := open_u8s h0 lt0
  have m0 := reach_u8s hsz (j := 0) rfl rfl hl0 hc0
  obtain ⟨a1, len1, cap1, rfl⟩ := okWide_slice Try.underlying26 (hval 1 26 v1 rfl rfl)
  have lt1 : ∀ x ∈ p1, x.block < W.heap.size := by obtain ⟨m, hm⟩ := h1; exact DataW.trod_lt m _ _ _ hm
  obtain ⟨x1, rfl, see1, hl1, nn1, hc1⟩ := open_u8s h1 lt1
  have m1 := reach_u8s hsz (j := 1) rfl rfl hl1 hc1
  obtain ⟨a2, len2, cap2, rfl⟩ := okWide_slice Try.underlying26 (hval 2 26 v2 rfl rfl)
  have lt2 : ∀ x ∈ p2, x.block < W.heap.size := by obtain ⟨m, hm⟩ := h2; exact DataW.trod_lt m _ _ _ hm
  obtain ⟨x2, rfl, see2, hl2, nn2, hc2⟩ := open_u8s h2 lt2
  have m2 := reach_u8s hsz (j := 2) rfl rfl hl2 hc2
  clear hA0 hval0
  refine (walk a0 cap0 x0 a1 cap1 x1 a2 cap2 x2 W see0 m0 nn0 hl0 see1 m1 nn1 hl1 see2 m2 nn2 hl2).mono fun e W' ⟨he, bel⟩ => ?_
  subst he
  exact ⟨_, rfl, _, _, _, [], _, [], hW', trodAll_mk1 (shut_bool Try.underlying4 _), (trodAll_cons_mk (Below.trod laidOut (by kernel_rfl) (of_decide_eq_true (by kernel_rfl)) h0 bel lt0) (trodAll_cons_mk (Below.trod laidOut (by kernel_rfl) (of_decide_eq_true (by kernel_rfl)) h1 bel lt1) (trodAll_cons_mk (Below.trod laidOut (by kernel_rfl) (of_decide_eq_true (by kernel_rfl)) h2 bel lt2) trodAll_mk0))), rfl, bel.frame _, fun h => by cases h⟩

theorem proved : Rows.ModesSealsSaid :=
  OpenClaim.holds_of_wide 10 Try.f10 rfl rfl rfl rfl rfl rfl rfl ⟨rfl, rfl, rfl, rfl, rfl⟩ rfl rfl rfl rfl rfl (by kernel_rfl) Try.func10 (by kernel_rfl)
    (of_decide_eq_true (by kernel_rfl)) (by unfold Func.isWrapper; first | (rw [if_pos (by decide +kernel)]; kernel_rfl) | (rw [if_neg (by decide +kernel)]; exact ⟨rfl, rfl⟩))
    (fun os started H enc _ => lifted os started H enc)
end Go.Proofs.Ytddobbigpoplpaa.modesSeals
