/-
  What is proved here: for all texts and every width, the program's Name and Names return what the reference's return (the statement OpticalNames), where the tables start as the program's text lays them; no other condition.
-/
import Derived.Test.YtfkcnbcifidlgaaDoorLy
namespace Go.Proofs.YtfkcnbcifidlgaaDoor.opticalNames
open Go.ChangeShapes Go.WideShapes Go.ChangeAt Go.RowKit
open Go.ChangeMaps (open_string shut_string)
set_option linter.unusedVariables false

theorem walk (s t : ByteArray) (n : Int) (w : World) (ht : TabW w) (m : s.size ≤ 140737488351232) (m2 : t.size ≤ 140737488351232) (wn : (Lit.int .i64 n).wf = true) :
    Calls Tryd.prog 5 #[.string s, .string t, .int .i64 n] w fun e w' => e = .returned (.bool true) ∧ Below w.heap.size w w' := by
  have hx := S_of s
  have hy := S_of t
  have hs : s.size ≤ 140737488355328 := by omega
  have hs2 : t.size ≤ 140737488355328 := by omega
  have f1 := fun w => p_names s t _ _ hx hy n w hs hs2
  have f2 := fun w => r_names s t _ _ hx hy n w hs hs2
  have f3 := fun w => p_name s _ hx w hs
  have f4 := fun w => r_name s _ hx w hs
  have f5 := fun w => p_name t _ hy w hs2
  have f6 := fun w => r_name t _ hy w hs2
  generalize s.data.toList = x at *
  generalize t.data.toList = y at *
  generalize namesL x y n = D at *
  generalize namesE x y n = E at *
  generalize nameL x = V at *
  generalize nameL y = V2 at *
  have HT := Lib.hid ht
  have HS := Lib.hid (show _ ∧ _ ∧ _ ∧ _ ∧ _ ∧ _ from ⟨f1, f2, f3, f4, f5, f6⟩)
  clear ht hx hy f1 f2 f3 f4 f5 f6 wn
  go_enter Tryd.func5, Tryd.ntmps5
  go_wp2_with (first
    | (go_at_call 19; refine (HS.out.1 _).mono ?_; rintro e w1 ⟨rfl, hb1⟩)
    | (go_at_call 20; refine (HS.out.2.1 _).mono ?_; rintro e w2 ⟨rfl, hb2⟩)
    | (go_at_call 11; refine (awake _ (HT.out.below (below_on hb1 hb2))).mono ?_; rintro e w3 ⟨rfl, hb3⟩)
    | (go_at_call 18; first
      | (with_reducible refine (HS.out.2.2.1 _).mono ?_; rintro e w' ⟨rfl, hw⟩; rw [hw]; clear hw)
      | (with_reducible refine (HS.out.2.2.2.2.1 _).mono ?_; rintro e w' ⟨rfl, hw⟩; rw [hw]; clear hw))
    | (go_at_call 21; first
      | (with_reducible refine (HS.out.2.2.2.1 _).mono ?_; rintro e w' ⟨rfl, hw⟩; rw [hw]; clear hw)
      | (with_reducible refine (HS.out.2.2.2.2.2 _).mono ?_; rintro e w' ⟨rfl, hw⟩; rw [hw]; clear hw)))
  go_ret
  exact ⟨by simp, below_on (below_on hb1 hb2) hb3⟩

/-! ### the given statement, out of the walk -/
set_option maxRecDepth 100000 in
theorem lifted (os : Os) (started : os.Started) (H : Type) (enc : TypeId × Value → H) :
    ReturnsInHanded {} Tryd.checked os 5 .any (fun w args => (Rows.opticalNamesSpec.pre enc Tryd.prog Tryd.f5 Rows.opticalNamesRow.domain false w args ∧ laidMetH Tryd.prog laidL w) ∧ sizedMet enc Tryd.prog Tryd.f5 (OpenSpec.ofChange Rows.opticalNamesSpec) false w args)
      (Rows.opticalNamesSpec.post enc Tryd.prog Tryd.f5 false true false false) := by
  refine returnsInHanded_of_change_and (C := Tryd.checked) (X := fun w _ => laidMetH Tryd.prog laidL w) (fun _ _ _ hh h => h.of_heap hh) own started (by kernel_rfl) Tryd.func5
    (ChangeSpec.witness_shaped (enc := enc) (C := Tryd.checked) (os := os) (X := fun w _ => laidMetH Tryd.prog laidL w) false (World.laidAll Tryd.prog os laidL) #[.string ByteArray.empty, .string ByteArray.empty, .int .i64 0] 8 (World.laidAll_os _ _ _)
      (World.shaped_of_ZipB (by kernel_rfl) (by kernel_rfl)) (by kernel_rfl) (by kernel_rfl) (by kernel_rfl)
      (by rw [MakeChecks.laidMetH_plain _ _ _ (by kernel_rfl)]; exact laidMet_laidAll _ (by kernel_rfl) (by kernel_rfl))) ?_
  intro W base args ds gs before hval0 hW hcnd hsz0 hL _
  have hsz : (DataW.weightsEach Tryd.prog (Tryd.f5.params.toList ++ Rows.opticalNamesSpec.plain.varTypes Tryd.prog) (ds ++ gs)).all (· ≤ reachBytes) = true := hsz0
  have hval : ∀ (j : Nat) t v, Tryd.f5.params[j]? = some t → args[j]? = some v → Value.okWide Tryd.prog W .any base t v := hval0
  have hW' := hW
  obtain ⟨p, q, hA0, hV, rfl, hfz, hnd⟩ := hW
  have hA : DataW.TrodAll enc Tryd.prog W 0 (fun _ => true) true Tryd.f5.params.toList args.toList ds p := hA0
  rw [Tryd.params5] at hA hval hsz
  obtain ⟨v0, vs0, d0, ds0, p0, q0, hargs, rfl, rfl, h0, r0⟩ := trodAll_cons hA
  obtain ⟨v1, vs1, d1, ds1, p1, q1, rfl, rfl, rfl, h1, r1⟩ := trodAll_cons r0
  obtain ⟨v2, vs2, d2, ds2, p2, q2, rfl, rfl, rfl, h2, r2⟩ := trodAll_cons r1
  obtain ⟨rfl, rfl, rfl⟩ := trodAll_nil r2
  obtain rfl : args = #[v0, v1, v2] := by cases args; simp_all
  obtain ⟨rfl, rfl⟩ := trodVars_none hV
  obtain ⟨s0, rfl, rfl, rfl, w0⟩ := open_string Tryd.underlying9 (hval 0 9 v0 rfl rfl) h0
  have m0 := reach_str hsz (j := 0) rfl rfl
  obtain ⟨s1, rfl, rfl, rfl, w1⟩ := open_string Tryd.underlying9 (hval 1 9 v1 rfl rfl) h1
  have m1 := reach_str hsz (j := 1) rfl rfl
  obtain ⟨n2, rfl, rfl, rfl, w2⟩ := open_int Tryd.underlying3 (hval 2 3 v2 rfl rfl) h2
  clear hA0 hval0
  refine (walk s0 s1 n2 W (of_laid hL) m0 m1 w2).mono fun e W' ⟨he, bel⟩ => ?_
  subst he
  exact ⟨_, rfl, _, _, _, [], _, [], hW', trodAll_mk1 (shut_bool Tryd.underlying4 _), (trodAll_cons_mk (shut_string Tryd.underlying9 w0) (trodAll_cons_mk (shut_string Tryd.underlying9 w1) (trodAll_cons_mk (shut_int Tryd.underlying3 w2) trodAll_mk0))), rfl, bel.frame _, fun h => by cases h⟩

theorem said : Rows.OpticalNamesSaid :=
  OpenClaim.holds_of_wide 5 Tryd.f5 rfl rfl rfl rfl rfl rfl rfl ⟨rfl, rfl, rfl, rfl, rfl⟩ rfl rfl rfl rfl rfl (by kernel_rfl) Tryd.func5 (by kernel_rfl)
    (of_decide_eq_true (by kernel_rfl)) (by unfold Func.isWrapper; first | (rw [if_pos (by decide +kernel)]; kernel_rfl) | (rw [if_neg (by decide +kernel)]; exact ⟨rfl, rfl⟩))
    (fun os started H enc _ => lifted os started H enc)
theorem proved : Rows.OpticalNamesCardSaid :=
  Claim7.holds_tied_plain_at .later [] laidKinds true Rows.opticalNamesCard.stood.harness false
    said (fun _ h => by cases h) (by kernel_rfl) (fun _ h => by cases h) opticalNames_row_tie rfl ⟨rfl, rfl⟩ (by kernel_rfl) rfl
    (fun f fn hf hfn => by
      obtain rfl : f = 5 := Option.some.inj ((show Tryd.prog.funcNamed "traveldoc/traveldoclaw10.OpticalNames" = some 5 by kernel_rfl).symm.trans hf) |>.symm
      obtain rfl : fn = Tryd.f5 := (Option.some.inj (Tryd.func5.symm.trans hfn)).symm
      exact ⟨by kernel_rfl, fun j t ht => by
        rw [Tryd.params5] at ht
        have hm : t ∈ [9, 9, 3] := by simpa using Array.mem_of_getElem? ht
        have hall : ([9, 9, 3].all fun u => !Tryd.prog.wantsStandIn u) = true := by kernel_rfl
        exact (show Tryd.prog.wantsStandIn t = false by simpa using List.all_eq_true.1 hall t hm)⟩)
    (by kernel_rfl)
end Go.Proofs.YtfkcnbcifidlgaaDoor.opticalNames
