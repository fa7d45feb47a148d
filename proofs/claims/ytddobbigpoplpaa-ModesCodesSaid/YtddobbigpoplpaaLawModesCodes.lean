/-
  What is proved here: what Code and Check return, for any key and any bytes, is what the reference returns (the statement ModesCodes); no condition.
-/
import Derived.Test.YtddobbigpoplpaaOp5
import Derived.Test.YtddobbigpoplpaaMcc
namespace Go.Proofs.Ytddobbigpoplpaa.modesCodes
open Go.ChangeShapes Go.WideShapes Go.ChangeAt Go.RowKit
open Go.ChangeMaps (open_string shut_string)
set_option linter.unusedVariables false

set_option maxRecDepth 40000 in
set_option maxHeartbeats 1000000 in
theorem walk (A0 : Option Addr) (c0 : Nat) (x0 : List UInt8) (A1 : Option Addr) (c1 : Nat) (x1 : List UInt8) (w : World) (h0 : Sees w w.heap.size A0 (Us x0)) (m0 : x0.length ≤ 140737488351232) (n0 : A0 = none → c0 = 0) (l0 : x0.length ≤ c0) (h1 : Sees w w.heap.size A1 (Us x1)) (m1 : x1.length ≤ 140737488351232) (n1 : A1 = none → c1 = 0) (l1 : x1.length ≤ c1) :
    Calls Try.prog 12 #[.slice A0 x0.length c0, .slice A1 x1.length c1] w fun e w' => e = .returned (.bool true) ∧ Below w.heap.size w w' := by
  have H0 := Lib.hid (SeesP.iff_sees.2 h0)
  have H1 := Lib.hid (SeesP.iff_sees.2 h1)
  have HB := Lib.hid (Below.refl w.heap.size w)
  have HA := Lib.hid (And.intro n0 n1)
  obtain ⟨N0, hN0⟩ : ∃ N, N = x0.length := ⟨_, rfl⟩
  obtain ⟨N1, hN1⟩ : ∃ N, N = x1.length := ⟨_, rfl⟩
  obtain ⟨q, hq⟩ : ∃ q, q = sxL x0 := ⟨_, rfl⟩
  have hql : q.length = 16 := by rw [hq]; exact sxL_length _
  rw [← hN0, ← hN1]
  have HE := Lib.hid (show x0.length = N0 ∧ x1.length = N1 ∧ sxL x0 = q ∧ N0 ≤ 140737488351232 ∧ N0 ≤ 140737488351250 ∧ N1 ≤ 140737488351250 ∧ q.length = 16 from ⟨hN0.symm, hN1.symm, hq.symm, by omega, by omega, by omega, hql⟩)
  clear h0 h1 n0 n1 l0 l1 m0 m1 hN0 hN1 hq hql
  by_cases hd : N1 % 3 = 0
  · have d3 : ((N1 : Int) % 3 == 0) = true := by rw [beq_iff_eq]; omega
    obtain ⟨E, hE⟩ : ∃ E, E = cdE N0 := ⟨_, rfl⟩
    obtain ⟨S, hS⟩ : ∃ S, S = cdB x0 x1 := ⟨_, rfl⟩
    obtain ⟨D, hD⟩ : ∃ D, D = ckB x0 x1 := ⟨_, rfl⟩
    obtain ⟨K, hK⟩ : ∃ K, K = S.length := ⟨_, rfl⟩
    obtain ⟨J, hJ⟩ : ∃ J, J = D.length := ⟨_, rfl⟩
    have HF := Lib.hid (show cdE N0 = E ∧ cdB x0 x1 = S ∧ S.length = K ∧ ckB x0 x1 = D ∧ D.length = J ∧ K ≤ 140737488351300 ∧ J ≤ 140737488351300 from ⟨hE.symm, hS.symm, hK.symm, hD.symm, hJ.symm, by have := cdB_le x0 x1; rw [hK, hS]; omega, by have := ckB_le x0 x1; rw [hJ, hD]; omega⟩)
    clear hd hE hS hD hK hJ
    go_enter Try.func12, Try.ntmps12
    go_wp2_with (first
      | (go_at_call 24; ((with_reducible refine (same_yes HF.out.2.2.2.2.1 HF.out.2.2.2.2.2.2 HZ.out HW.out).mono ?_); rintro e w8 ⟨rfl, hb⟩); replace HB := Lib.hid (below_on HB.out hb); clear hb)
      | (go_at_call 24; ((with_reducible refine (same_yes HF.out.2.2.1 HF.out.2.2.2.2.2.1 HX.out HY.out).mono ?_); rintro e w7 ⟨rfl, hb⟩); replace HZ := Lib.hid (HZ.out.on hb); replace HW := Lib.hid (HW.out.on hb); replace HB := Lib.hid (below_on HB.out hb); clear HX; clear hb)
      | (go_at_call 33; ((with_reducible refine (awake6 _).mono ?_); rintro e w6 ⟨rfl, hb⟩); replace HX := Lib.hid (HX.out.on hb); replace HY := Lib.hid (HY.out.on hb); replace HZ := Lib.hid (HZ.out.on hb); replace HW := Lib.hid (HW.out.on hb); replace HB := Lib.hid (below_on HB.out hb); clear hb)
      | (go_at_call 43; ((with_reducible refine (check_rg HE.out.1 HE.out.2.1 HF.out.1 HF.out.2.2.2.1 HF.out.2.2.2.2.1 HE.out.2.2.2.2.1 HE.out.2.2.2.2.2.1 HA.out.2 H0.out H1.out).mono ?_); rintro e w5 ⟨B5, e5, rfl, hs, hb⟩); replace HX := Lib.hid (HX.out.on hb); replace HY := Lib.hid (HY.out.on hb); replace HZ := Lib.hid (HZ.out.on hb); replace HB := Lib.hid (below_on HB.out hb); have HW := Lib.hid hs; clear hs; clear hb)
      | (go_at_call 42; ((with_reducible refine (check_pg HE.out.1 HE.out.2.1 HF.out.1 HF.out.2.2.2.1 HF.out.2.2.2.2.1 HE.out.2.2.2.2.1 HE.out.2.2.2.2.2.1 H0.out H1.out).mono ?_); rintro e w4 ⟨B4, e4, rfl, hs, hb⟩); replace H0 := Lib.hid (H0.out.on hb); replace H1 := Lib.hid (H1.out.on hb); replace HX := Lib.hid (HX.out.on hb); replace HY := Lib.hid (HY.out.on hb); replace HB := Lib.hid (below_on HB.out hb); have HZ := Lib.hid hs; clear hs; clear hb)
      | (go_at_call 41; ((with_reducible refine (code_rg HE.out.1 HE.out.2.1 HF.out.1 HF.out.2.1 HF.out.2.2.1 HE.out.2.2.2.2.1 HE.out.2.2.2.2.2.1 HA.out.2 H0.out H1.out).mono ?_); rintro e w3 ⟨B3, e3, rfl, hs, hb⟩); replace H0 := Lib.hid (H0.out.on hb); replace H1 := Lib.hid (H1.out.on hb); replace HX := Lib.hid (HX.out.on hb); replace HB := Lib.hid (below_on HB.out hb); have HY := Lib.hid hs; clear hs; clear hb)
      | (go_at_call 40; ((with_reducible refine (code_pg HE.out.1 HE.out.2.1 HF.out.1 HF.out.2.1 HF.out.2.2.1 HE.out.2.2.2.2.1 HE.out.2.2.2.2.2.1 H0.out H1.out).mono ?_); rintro e w2 ⟨B2, e2, rfl, hs, hb⟩); replace H0 := Lib.hid (H0.out.on hb); replace H1 := Lib.hid (H1.out.on hb); replace HB := Lib.hid (below_on HB.out hb); have HX := Lib.hid hs; clear hs; clear hb)
      | (go_at_call 39; ((with_reducible refine (sixteen6 HE.out.1 HE.out.2.2.1 HE.out.2.2.2.1 HA.out.1 H0.out).mono ?_); rintro e w1 ⟨B1, e1, rfl, hs, hb⟩); replace H0 := Lib.hid (H0.out.on hb); replace H1 := Lib.hid (H1.out.on hb); replace HB := Lib.hid (below_on HB.out hb); have H3 := Lib.hid hs; clear hs; clear hb))
    go_ret
    exact ⟨rfl, HB.out⟩

  · have d3 : ((N1 : Int) % 3 == 0) = false := by rw [beq_eq_false_iff_ne]; omega
    have n16c : 16 ≤ 140737488351250 := by decide
    obtain ⟨E, hE⟩ : ∃ E, E = cdE 16 := ⟨_, rfl⟩
    obtain ⟨S, hS⟩ : ∃ S, S = cdB q x1 := ⟨_, rfl⟩
    obtain ⟨D, hD⟩ : ∃ D, D = ckB q x1 := ⟨_, rfl⟩
    obtain ⟨K, hK⟩ : ∃ K, K = S.length := ⟨_, rfl⟩
    obtain ⟨J, hJ⟩ : ∃ J, J = D.length := ⟨_, rfl⟩
    have HF := Lib.hid (show cdE 16 = E ∧ cdB q x1 = S ∧ S.length = K ∧ ckB q x1 = D ∧ D.length = J ∧ K ≤ 140737488351300 ∧ J ≤ 140737488351300 from ⟨hE.symm, hS.symm, hK.symm, hD.symm, hJ.symm, by have := cdB_le q x1; rw [hK, hS]; omega, by have := ckB_le q x1; rw [hJ, hD]; omega⟩)
    clear hd hE hS hD hK hJ
    have HC := Lib.hid n16c
    clear n16c
    go_enter Try.func12, Try.ntmps12
    go_wp2_with (first
      | (go_at_call 24; ((with_reducible refine (same_yes HF.out.2.2.2.2.1 HF.out.2.2.2.2.2.2 HZ.out HW.out).mono ?_); rintro e w8 ⟨rfl, hb⟩); replace HB := Lib.hid (below_on HB.out hb); clear hb)
      | (go_at_call 24; ((with_reducible refine (same_yes HF.out.2.2.1 HF.out.2.2.2.2.2.1 HX.out HY.out).mono ?_); rintro e w7 ⟨rfl, hb⟩); replace HZ := Lib.hid (HZ.out.on hb); replace HW := Lib.hid (HW.out.on hb); replace HB := Lib.hid (below_on HB.out hb); clear HX; clear hb)
      | (go_at_call 33; ((with_reducible refine (awake6 _).mono ?_); rintro e w6 ⟨rfl, hb⟩); replace HX := Lib.hid (HX.out.on hb); replace HY := Lib.hid (HY.out.on hb); replace HZ := Lib.hid (HZ.out.on hb); replace HW := Lib.hid (HW.out.on hb); replace HB := Lib.hid (below_on HB.out hb); clear hb)
      | (go_at_call 43; ((with_reducible refine (check_rg HE.out.2.2.2.2.2.2 HE.out.2.1 HF.out.1 HF.out.2.2.2.1 HF.out.2.2.2.2.1 HC.out HE.out.2.2.2.2.2.1 HA.out.2 H3.out H1.out).mono ?_); rintro e w5 ⟨B5, e5, rfl, hs, hb⟩); replace HX := Lib.hid (HX.out.on hb); replace HY := Lib.hid (HY.out.on hb); replace HZ := Lib.hid (HZ.out.on hb); replace HB := Lib.hid (below_on HB.out hb); have HW := Lib.hid hs; clear hs; clear hb)
      | (go_at_call 42; ((with_reducible refine (check_pg HE.out.2.2.2.2.2.2 HE.out.2.1 HF.out.1 HF.out.2.2.2.1 HF.out.2.2.2.2.1 HC.out HE.out.2.2.2.2.2.1 H3.out H1.out).mono ?_); rintro e w4 ⟨B4, e4, rfl, hs, hb⟩); replace H3 := Lib.hid (H3.out.on hb); replace H1 := Lib.hid (H1.out.on hb); replace HX := Lib.hid (HX.out.on hb); replace HY := Lib.hid (HY.out.on hb); replace HB := Lib.hid (below_on HB.out hb); have HZ := Lib.hid hs; clear hs; clear hb)
      | (go_at_call 41; ((with_reducible refine (code_rg HE.out.2.2.2.2.2.2 HE.out.2.1 HF.out.1 HF.out.2.1 HF.out.2.2.1 HC.out HE.out.2.2.2.2.2.1 HA.out.2 H3.out H1.out).mono ?_); rintro e w3 ⟨B3, e3, rfl, hs, hb⟩); replace H3 := Lib.hid (H3.out.on hb); replace H1 := Lib.hid (H1.out.on hb); replace HX := Lib.hid (HX.out.on hb); replace HB := Lib.hid (below_on HB.out hb); have HY := Lib.hid hs; clear hs; clear hb)
      | (go_at_call 40; ((with_reducible refine (code_pg HE.out.2.2.2.2.2.2 HE.out.2.1 HF.out.1 HF.out.2.1 HF.out.2.2.1 HC.out HE.out.2.2.2.2.2.1 H3.out H1.out).mono ?_); rintro e w2 ⟨B2, e2, rfl, hs, hb⟩); replace H3 := Lib.hid (H3.out.on hb); replace H1 := Lib.hid (H1.out.on hb); replace HB := Lib.hid (below_on HB.out hb); have HX := Lib.hid hs; clear hs; clear hb)
      | (go_at_call 39; ((with_reducible refine (sixteen6 HE.out.1 HE.out.2.2.1 HE.out.2.2.2.1 HA.out.1 H0.out).mono ?_); rintro e w1 ⟨B1, e1, rfl, hs, hb⟩); replace H0 := Lib.hid (H0.out.on hb); replace H1 := Lib.hid (H1.out.on hb); replace HB := Lib.hid (below_on HB.out hb); have H3 := Lib.hid hs; clear hs; clear hb))
    go_ret
    exact ⟨rfl, HB.out⟩

/-! ### the given statement, out of the walk -/
set_option maxRecDepth 100000 in
theorem lifted (os : Os) (started : os.Started) (H : Type) (enc : TypeId × Value → H) :
    ReturnsInHanded {} Try.checked os 12 .any (Rows.modesCodesSpec.pre6 enc Try.prog Try.f12 Rows.modesCodesRow.domain false) (Rows.modesCodesSpec.post enc Try.prog Try.f12 false true false false) := by
  refine returnsInHanded_of_change_sized (C := Try.checked) own started (by kernel_rfl) Try.func12
    (ChangeSpec.witness6 (enc := enc) (C := Try.checked) false ⟨#[], #[.slice none 0 0, .slice none 0 0], []⟩ 8 (by kernel_rfl) (by kernel_rfl) (by kernel_rfl) (by kernel_rfl)) ?_
  intro W base args ds gs before hval0 hW hcnd hsz0 _
  have hsz : (DataW.weightsEach Try.prog (Try.f12.params.toList ++ Rows.modesCodesSpec.plain.varTypes Try.prog) (ds ++ gs)).all (· ≤ reachBytes) = true := hsz0
  have hval : ∀ (j : Nat) t v, Try.f12.params[j]? = some t → args[j]? = some v → Value.okWide Try.prog W .any base t v := hval0
  have hW' := hW
  obtain ⟨p, q, hA0, hV, rfl, hfz, hnd⟩ := hW
  have hA : DataW.TrodAll enc Try.prog W 0 (fun _ => true) true Try.f12.params.toList args.toList ds p := hA0
  rw [Try.params12] at hA hval hsz
  obtain ⟨v0, vs0, d0, ds0, p0, q0, hargs, rfl, rfl, h0, r0⟩ := trodAll_cons hA
  obtain ⟨v1, vs1, d1, ds1, p1, q1, rfl, rfl, rfl, h1, r1⟩ := trodAll_cons r0
  obtain ⟨rfl, rfl, rfl⟩ := trodAll_nil r1
  obtain rfl : args = #[v0, v1] := by cases args; simp_all
  obtain ⟨rfl, rfl⟩ := trodVars_none hV
  obtain ⟨a0, len0, cap0, rfl⟩ := okWide_slice Try.underlying26 (hval 0 26 v0 rfl rfl)
  have lt0 : ∀ x ∈ p0, x.block < W.heap.size := by obtain ⟨m, hm⟩ := h0; exact DataW.trod_lt m _ _ _ hm
  obtain ⟨x0, rfl, see0, hl0, nn0, hc0⟩ := open_u8s h0 lt0
  have m0 := reach_u8s hsz (j := 0) rfl rfl hl0 hc0
  obtain ⟨a1, len1, cap1, rfl⟩ := okWide_slice Try.underlying26 (hval 1 26 v1 rfl rfl)
  have lt1 : ∀ x ∈ p1, x.block < W.heap.size := by obtain ⟨m, hm⟩ := h1; exact DataW.trod_lt m _ _ _ hm
  obtain ⟨x1, rfl, see1, hl1, nn1, hc1⟩ := open_u8s h1 lt1
  have m1 := reach_u8s hsz (j := 1) rfl rfl hl1 hc1
  clear hA0 hval0
  refine (walk a0 cap0 x0 a1 cap1 x1 W see0 m0 nn0 hl0 see1 m1 nn1 hl1).mono fun e W' ⟨he, bel⟩ => ?_
  subst he
  exact ⟨_, rfl, _, _, _, [], _, [], hW', trodAll_mk1 (shut_bool Try.underlying4 _), (trodAll_cons_mk (Below.trod laidOut (by kernel_rfl) (of_decide_eq_true (by kernel_rfl)) h0 bel lt0) (trodAll_cons_mk (Below.trod laidOut (by kernel_rfl) (of_decide_eq_true (by kernel_rfl)) h1 bel lt1) trodAll_mk0)), rfl, bel.frame _, fun h => by cases h⟩

theorem proved : Rows.ModesCodesSaid :=
  OpenClaim.holds_of_wide 12 Try.f12 rfl rfl rfl rfl rfl rfl rfl ⟨rfl, rfl, rfl, rfl, rfl⟩ rfl rfl rfl rfl rfl (by kernel_rfl) Try.func12 (by kernel_rfl)
    (of_decide_eq_true (by kernel_rfl)) (by unfold Func.isWrapper; first | (rw [if_pos (by decide +kernel)]; kernel_rfl) | (rw [if_neg (by decide +kernel)]; exact ⟨rfl, rfl⟩))
    (fun os started H enc _ => lifted os started H enc)
end Go.Proofs.Ytddobbigpoplpaa.modesCodes
