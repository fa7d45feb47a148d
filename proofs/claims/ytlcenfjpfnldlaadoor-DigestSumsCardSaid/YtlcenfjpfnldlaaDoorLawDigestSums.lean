/-
  What is proved here: for all bytes, the program's Sum returns what the reference's returns (the statement DigestSums), where the tables start as the program's text lays them; no other condition.
-/
import Derived.Test.YtlcenfjpfnldlaaDoorOp4
import Derived.Test.YtlcenfjpfnldlaaDoorSmr
namespace Go.Proofs.YtlcenfjpfnldlaaDoor.digestSums
open Go.ChangeShapes Go.WideShapes Go.ChangeAt Go.RowKit
open Go.ChangeMaps (open_string shut_string)
set_option linter.unusedVariables false

abbrev laidL := laidL3
abbrev laidKinds := laidKinds3
theorem of_laid {W : World} (h : laidMetH Tryd.prog laidL W) : TabA W ∧ TabR W := of_laid3 h
theorem sumL_length (x : List UInt8) : (sumL x).length = 32 := by rw [sumL, outB_length, stW_length]
theorem walk (A : Option Addr) (c : Nat) (x : List UInt8) (w : World) (ht : TabA w ∧ TabR w) (hs : Sees w w.heap.size A (Us x)) (m : x.length ≤ 140737488351232) (hn : A = none → c = 0) :
    Calls Tryd.prog 5 #[.slice A x.length c] w fun e w' => e = .returned (.bool true) ∧ Below w.heap.size w w' := by
  have H := Lib.hid (show _ ∧ _ ∧ _ from ⟨ht, hs, hn⟩)
  clear ht hs hn
  go_enter Tryd.func5, Tryd.ntmps5
  go_wp2_with fail
  refine (awake w H.out.1.1).mono ?_
  rintro e w1 ⟨rfl, hb1⟩
  have HB := Lib.hid hb1
  clear hb1
  go_wp2_with fail
  refine (digest_sum x A c w1 (by omega) (SeesP.iff_sees.2 (H.out.2.1.on HB.out)) (H.out.1.1.below HB.out).1 (H.out.1.1.below HB.out).2.1).mono ?_
  intro e w2 hm
  obtain ⟨A2, c2, rfl, h2, h3, h4, hb2⟩ := mk_sees hm
  have HM := Lib.hid (show _ ∧ _ from ⟨SeesP.iff_sees.1 h4, below_on HB.out hb2⟩)
  clear hm h2 h3 h4 hb2
  go_wp2_with fail
  refine (ref_sum x A c w2 m H.out.2.2 (SeesP.iff_sees.2 (H.out.2.1.on HM.out.2)) (H.out.1.2.below HM.out.2)).mono ?_
  intro e w3 hm
  obtain ⟨A3, c3, rfl, h2, h3, h4, hb3⟩ := mk_sees hm
  have HX := Lib.hid (ref_same_yes A2 A3 c2 c3 (sumL x) w3 (HM.out.1.on hb3) (SeesP.iff_sees.1 h4) (by rw [sumL_length]; decide))
  have HC := Lib.hid (below_on HM.out.2 hb3)
  clear hm h2 h3 h4 hb3
  go_wp2_with fail
  refine HX.out.mono ?_
  rintro e w4 ⟨rfl, hb4⟩
  go_wp2_with fail
  go_ret
  exact ⟨rfl, below_on HC.out hb4⟩

/-! ### the given statement, out of the walk -/
set_option maxRecDepth 100000 in
theorem lifted (os : Os) (started : os.Started) (H : Type) (enc : TypeId × Value → H) :
    ReturnsInHanded {} Tryd.checked os 5 .any (fun w args => (Rows.digestSumsSpec.pre enc Tryd.prog Tryd.f5 Rows.digestSumsRow.domain false w args ∧ laidMetH Tryd.prog laidL w) ∧ sizedMet enc Tryd.prog Tryd.f5 (OpenSpec.ofChange Rows.digestSumsSpec) false w args)
      (Rows.digestSumsSpec.post enc Tryd.prog Tryd.f5 false true false false) := by
  refine returnsInHanded_of_change_and (C := Tryd.checked) (X := fun w _ => laidMetH Tryd.prog laidL w) (fun _ _ _ hh h => h.of_heap hh) own started (by kernel_rfl) Tryd.func5
    (ChangeSpec.witness_shaped (enc := enc) (C := Tryd.checked) (os := os) (X := fun w _ => laidMetH Tryd.prog laidL w) false (World.laidAll Tryd.prog os laidL) #[.slice none 0 0] 8 (World.laidAll_os _ _ _)
      (World.shaped_of_ZipB (by kernel_rfl) (by kernel_rfl)) (by kernel_rfl) (by kernel_rfl) (by kernel_rfl)
      (by rw [MakeChecks.laidMetH_plain _ _ _ (by kernel_rfl)]; exact laidMet_laidAll _ (by kernel_rfl) (by kernel_rfl))) ?_
  intro W base args ds gs before hval0 hW hcnd hsz0 hL _
  have hsz : (DataW.weightsEach Tryd.prog (Tryd.f5.params.toList ++ Rows.digestSumsSpec.plain.varTypes Tryd.prog) (ds ++ gs)).all (· ≤ reachBytes) = true := hsz0
  have hval : ∀ (j : Nat) t v, Tryd.f5.params[j]? = some t → args[j]? = some v → Value.okWide Tryd.prog W .any base t v := hval0
  have hW' := hW
  obtain ⟨p, q, hA0, hV, rfl, hfz, hnd⟩ := hW
  have hA : DataW.TrodAll enc Tryd.prog W 0 (fun _ => true) true Tryd.f5.params.toList args.toList ds p := hA0
  rw [Tryd.params5] at hA hval hsz
  obtain ⟨v0, vs0, d0, ds0, p0, q0, hargs, rfl, rfl, h0, r0⟩ := trodAll_cons hA
  obtain ⟨rfl, rfl, rfl⟩ := trodAll_nil r0
  obtain rfl : args = #[v0] := by cases args; simp_all
  obtain ⟨rfl, rfl⟩ := trodVars_none hV
  obtain ⟨a0, len0, cap0, rfl⟩ := okWide_slice Tryd.underlying22 (hval 0 22 v0 rfl rfl)
  have lt0 : ∀ x ∈ p0, x.block < W.heap.size := by obtain ⟨m, hm⟩ := h0; exact DataW.trod_lt m _ _ _ hm
  obtain ⟨x0, rfl, see0, hl0, nn0, hc0⟩ := open_u8s h0 lt0
  have m0 := reach_u8s hsz (j := 0) rfl rfl hl0 hc0
  clear hA0 hval0
  refine (walk a0 cap0 x0 W (of_laid hL) see0 m0 nn0).mono fun e W' ⟨he, bel⟩ => ?_
  subst he
  exact ⟨_, rfl, _, _, _, [], _, [], hW', trodAll_mk1 (shut_bool Tryd.underlying4 _), (trodAll_cons_mk (Below.trod laidOut (by kernel_rfl) (of_decide_eq_true (by kernel_rfl)) h0 bel lt0) trodAll_mk0), rfl, bel.frame _, fun h => by cases h⟩

theorem said : Rows.DigestSumsSaid :=
  OpenClaim.holds_of_wide 5 Tryd.f5 rfl rfl rfl rfl rfl rfl rfl ⟨rfl, rfl, rfl, rfl, rfl⟩ rfl rfl rfl rfl rfl (by kernel_rfl) Tryd.func5 (by kernel_rfl)
    (of_decide_eq_true (by kernel_rfl)) (by unfold Func.isWrapper; first | (rw [if_pos (by decide +kernel)]; kernel_rfl) | (rw [if_neg (by decide +kernel)]; exact ⟨rfl, rfl⟩))
    (fun os started H enc _ => lifted os started H enc)
theorem proved : Rows.DigestSumsCardSaid :=
  Claim7.holds_tied_plain_at .later [] laidKinds true Rows.digestSumsCard.stood.harness false
    said (fun _ h => by cases h) (by kernel_rfl) (fun _ h => by cases h) digestSums_row_tie rfl ⟨rfl, rfl⟩ (by kernel_rfl) rfl
    (fun f fn hf hfn => by
      obtain rfl : f = 5 := Option.some.inj ((show Tryd.prog.funcNamed "traveldoc/traveldoclaw04.DigestSums" = some 5 by kernel_rfl).symm.trans hf) |>.symm
      obtain rfl : fn = Tryd.f5 := (Option.some.inj (Tryd.func5.symm.trans hfn)).symm
      exact ⟨by kernel_rfl, fun j t ht => by
        rw [Tryd.params5] at ht
        have hm : t ∈ [22] := by simpa using Array.mem_of_getElem? ht
        have hall : ([22].all fun u => !Tryd.prog.wantsStandIn u) = true := by kernel_rfl
        exact (show Tryd.prog.wantsStandIn t = false by simpa using List.all_eq_true.1 hall t hm)⟩)
    (by kernel_rfl)
end Go.Proofs.YtlcenfjpfnldlaaDoor.digestSums
