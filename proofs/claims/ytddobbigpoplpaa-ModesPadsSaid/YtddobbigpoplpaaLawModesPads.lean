/-
  What is proved here: what Pad and Unpad return for any bytes, and for padded ones, is what the reference returns (the statement ModesPads); no condition.
-/
import Derived.Test.YtddobbigpoplpaaOp5
import Derived.Test.YtddobbigpoplpaaMl
namespace Go.Proofs.Ytddobbigpoplpaa.modesPads
open Go.ChangeShapes Go.WideShapes Go.ChangeAt Go.RowKit
open Go.ChangeMaps (open_string shut_string)
set_option linter.unusedVariables false

set_option maxRecDepth 40000 in
set_option maxHeartbeats 1000000 in
theorem walk (A0 : Option Addr) (c0 : Nat) (x0 : List UInt8) (w : World) (h0 : Sees w w.heap.size A0 (Us x0)) (m0 : x0.length ≤ 140737488351232) (n0 : A0 = none → c0 = 0) (l0 : x0.length ≤ c0) :
    Calls Try.prog 9 #[.slice A0 x0.length c0] w fun e w' => e = .returned (.bool true) ∧ Below w.heap.size w w' := by
  have H0 := Lib.hid (SeesP.iff_sees.2 h0)
  have HB := Lib.hid (Below.refl w.heap.size w)
  have HN := Lib.hid (And.intro n0 l0)
  obtain ⟨N, hN⟩ : ∃ N, N = x0.length := ⟨_, rfl⟩
  obtain ⟨B, hB⟩ : ∃ B, B = unpB x0 := ⟨_, rfl⟩
  obtain ⟨E, hE⟩ : ∃ E, E = unpE x0 := ⟨_, rfl⟩
  obtain ⟨P, hP⟩ : ∃ P, P = padM x0 := ⟨_, rfl⟩
  obtain ⟨K, hK⟩ : ∃ K, K = P.length := ⟨_, rfl⟩
  obtain ⟨J, hJ⟩ : ∃ J, J = B.length := ⟨_, rfl⟩
  have HL := Lib.hid (show N ≤ 140737488351300 by omega)
  have HK := Lib.hid (show K ≤ 140737488351300 by rw [hK, hP, padM_length]; omega)
  have HJ := Lib.hid (show J ≤ 140737488351300 by
    have : (unpB x0).length ≤ x0.length := by
      unfold unpB
      split
      · simp
      · split <;> simp [List.length_take]; omega
    rw [hJ, hB]; omega)
  have HU := Lib.hid (show unpB P = x0 ∧ unpE P = 0 by rw [hP]; exact unp_pad x0)
  have HBE := Lib.hid (show unpB x0 = B ∧ unpE x0 = E ∧ padM x0 = P ∧ x0.length = N ∧ P.length = K ∧ B.length = J ∧ N ≤ c0 from ⟨hB.symm, hE.symm, hP.symm, hN.symm, hK.symm, hJ.symm, by omega⟩)
  rw [← hN]
  clear h0 n0 l0 m0 hN hB hE hP hK hJ
  go_enter Try.func9, Try.ntmps9
  go_wp2_with (first
    | (go_at_call 24; ((with_reducible refine (same_yes HBE.out.2.2.2.1 HL.out HZ.out H0.out).mono ?_); rintro e w10 ⟨rfl, hb⟩); replace HB := Lib.hid (below_on HB.out hb); clear hb)
    | (go_at_call 24; ((with_reducible refine (same_yes HBE.out.2.2.2.2.2.1 HJ.out HX.out HY.out).mono ?_); rintro e w9 ⟨rfl, hb⟩); replace H0 := Lib.hid (H0.out.on hb); replace HZ := Lib.hid (HZ.out.on hb); replace HB := Lib.hid (below_on HB.out hb); clear HX; clear hb)
    | (go_at_call 24; ((with_reducible refine (same_yes HBE.out.2.2.2.2.1 HK.out HP6.out HP7.out).mono ?_); rintro e w8 ⟨rfl, hb⟩); replace H0 := Lib.hid (H0.out.on hb); replace HX := Lib.hid (HX.out.on hb); replace HY := Lib.hid (HY.out.on hb); replace HZ := Lib.hid (HZ.out.on hb); replace HB := Lib.hid (below_on HB.out hb); clear HP6; clear hb)
    | (go_at_call 32; ((with_reducible refine (pad_r HBE.out.2.2.2.1 HBE.out.2.2.1 HBE.out.2.2.2.2.1 HL.out HN.out.1 H0.out).mono ?_); rintro e w7 ⟨B7, e7, rfl, hc, hn, hs, hb⟩); replace H0 := Lib.hid (H0.out.on hb); replace HX := Lib.hid (HX.out.on hb); replace HY := Lib.hid (HY.out.on hb); replace HZ := Lib.hid (HZ.out.on hb); replace HP6 := Lib.hid (HP6.out.on hb); replace HB := Lib.hid (below_on HB.out hb); have HP7 := Lib.hid hs; clear hs hc hn; clear hb)
    | (go_at_call 34; ((with_reducible refine (pad_p HBE.out.2.2.2.1 HBE.out.2.2.1 HBE.out.2.2.2.2.1 HL.out H0.out).mono ?_); rintro e w6 ⟨B6, e6, rfl, hc, hn, hs, hb⟩); replace H0 := Lib.hid (H0.out.on hb); replace HX := Lib.hid (HX.out.on hb); replace HY := Lib.hid (HY.out.on hb); replace HZ := Lib.hid (HZ.out.on hb); replace HB := Lib.hid (below_on HB.out hb); have HP6 := Lib.hid hs; clear hs hc hn; clear hb)
    | (go_at_call 33; ((with_reducible refine (awake6 _).mono ?_); rintro e w5 ⟨rfl, hb⟩); replace H0 := Lib.hid (H0.out.on hb); replace HX := Lib.hid (HX.out.on hb); replace HY := Lib.hid (HY.out.on hb); replace HZ := Lib.hid (HZ.out.on hb); replace HB := Lib.hid (below_on HB.out hb); clear hb)
    | (go_at_call 30; ((with_reducible refine (unpad_p HBE.out.2.2.2.2.1 HU.out.1 HU.out.2 HBE.out.2.2.2.1 HK.out HP.out).mono ?_); rintro e w4 ⟨B4, e4, rfl, hs, hb⟩); replace H0 := Lib.hid (H0.out.on hb); replace HX := Lib.hid (HX.out.on hb); replace HY := Lib.hid (HY.out.on hb); replace HB := Lib.hid (below_on HB.out hb); have HZ := Lib.hid hs; clear hs; clear hb)
    | (go_at_call 32; ((with_reducible refine (pad_r HBE.out.2.2.2.1 HBE.out.2.2.1 HBE.out.2.2.2.2.1 HL.out HN.out.1 H0.out).mono ?_); rintro e w3 ⟨B3, e3, rfl, hc, hn, hs, hb⟩); replace H0 := Lib.hid (H0.out.on hb); replace HX := Lib.hid (HX.out.on hb); replace HY := Lib.hid (HY.out.on hb); replace HB := Lib.hid (below_on HB.out hb); have HP := Lib.hid hs; clear hs hc hn; clear hb)
    | (go_at_call 31; ((with_reducible refine (unpad_r HBE.out.2.2.2.1 HBE.out.1 HBE.out.2.1 HBE.out.2.2.2.2.2.1 HL.out HBE.out.2.2.2.2.2.2 H0.out).mono ?_); rintro e w2 ⟨B2, e2, rfl, hs, hb⟩); replace H0 := Lib.hid (H0.out.on hb); replace HX := Lib.hid (HX.out.on hb); replace HB := Lib.hid (below_on HB.out hb); have HY := Lib.hid hs; clear hs; clear hb)
    | (go_at_call 30; ((with_reducible refine (unpad_p HBE.out.2.2.2.1 HBE.out.1 HBE.out.2.1 HBE.out.2.2.2.2.2.1 HL.out H0.out).mono ?_); rintro e w1 ⟨B1, e1, rfl, hs, hb⟩); replace H0 := Lib.hid (H0.out.on hb); replace HB := Lib.hid (below_on HB.out hb); have HX := Lib.hid hs; clear hs; clear hb))
  go_ret
  exact ⟨rfl, HB.out⟩

/-! ### the given statement, out of the walk -/
set_option maxRecDepth 100000 in
theorem lifted (os : Os) (started : os.Started) (H : Type) (enc : TypeId × Value → H) :
    ReturnsInHanded {} Try.checked os 9 .any (Rows.modesPadsSpec.pre6 enc Try.prog Try.f9 Rows.modesPadsRow.domain false) (Rows.modesPadsSpec.post enc Try.prog Try.f9 false true false false) := by
  refine returnsInHanded_of_change_sized (C := Try.checked) own started (by kernel_rfl) Try.func9
    (ChangeSpec.witness6 (enc := enc) (C := Try.checked) false ⟨#[], #[.slice none 0 0], []⟩ 8 (by kernel_rfl) (by kernel_rfl) (by kernel_rfl) (by kernel_rfl)) ?_
  intro W base args ds gs before hval0 hW hcnd hsz0 _
  have hsz : (DataW.weightsEach Try.prog (Try.f9.params.toList ++ Rows.modesPadsSpec.plain.varTypes Try.prog) (ds ++ gs)).all (· ≤ reachBytes) = true := hsz0
  have hval : ∀ (j : Nat) t v, Try.f9.params[j]? = some t → args[j]? = some v → Value.okWide Try.prog W .any base t v := hval0
  have hW' := hW
  obtain ⟨p, q, hA0, hV, rfl, hfz, hnd⟩ := hW
  have hA : DataW.TrodAll enc Try.prog W 0 (fun _ => true) true Try.f9.params.toList args.toList ds p := hA0
  rw [Try.params9] at hA hval hsz
  obtain ⟨v0, vs0, d0, ds0, p0, q0, hargs, rfl, rfl, h0, r0⟩ := trodAll_cons hA
  obtain ⟨rfl, rfl, rfl⟩ := trodAll_nil r0
  obtain rfl : args = #[v0] := by cases args; simp_all
  obtain ⟨rfl, rfl⟩ := trodVars_none hV
  obtain ⟨a0, len0, cap0, rfl⟩ := okWide_slice Try.underlying26 (hval 0 26 v0 rfl rfl)
  have lt0 : ∀ x ∈ p0, x.block < W.heap.size := by obtain ⟨m, hm⟩ := h0; exact DataW.trod_lt m _ _ _ hm
  obtain ⟨x0, rfl, see0, hl0, nn0, hc0⟩ := open_u8s h0 lt0
  have m0 := reach_u8s hsz (j := 0) rfl rfl hl0 hc0
  clear hA0 hval0
  refine (walk a0 cap0 x0 W see0 m0 nn0 hl0).mono fun e W' ⟨he, bel⟩ => ?_
  subst he
  exact ⟨_, rfl, _, _, _, [], _, [], hW', trodAll_mk1 (shut_bool Try.underlying4 _), (trodAll_cons_mk (Below.trod laidOut (by kernel_rfl) (of_decide_eq_true (by kernel_rfl)) h0 bel lt0) trodAll_mk0), rfl, bel.frame _, fun h => by cases h⟩

theorem proved : Rows.ModesPadsSaid :=
  OpenClaim.holds_of_wide 9 Try.f9 rfl rfl rfl rfl rfl rfl rfl ⟨rfl, rfl, rfl, rfl, rfl⟩ rfl rfl rfl rfl rfl (by kernel_rfl) Try.func9 (by kernel_rfl)
    (of_decide_eq_true (by kernel_rfl)) (by unfold Func.isWrapper; first | (rw [if_pos (by decide +kernel)]; kernel_rfl) | (rw [if_neg (by decide +kernel)]; exact ⟨rfl, rfl⟩))
    (fun os started H enc _ => lifted os started H enc)
end Go.Proofs.Ytddobbigpoplpaa.modesPads
