/-
  What is proved here: the given statement SecurityinfoChoosesCardSaid: whatever numbers, whatever order and whatever two lists of infos are handed in.
-/
import Derived.Test.YtcapbojjceeapaaDoorWKm
import Derived.Test.YtcapbojjceeapaaDoorWLj
namespace Go.Proofs.YtcapbojjceeapaaDoor.securityinfoChooses
open Go.ChangeShapes Go.WideShapes Go.ChangeAt Go.RowKit
open Go.ChangeMaps (open_string shut_string)
set_option linter.unusedVariables false
theorem walk (A : Option Addr) (c : Nat) (ls : List Int) (B : Option Addr) (cb : Nat) (os : List Int) (X1 : Option Addr) (c1 : Nat) (l1 : List Im) (X2 : Option Addr) (c2 : Nat) (l2 : List Im) (w : World) (ht : TabX w)
    (hs : SeesP w (· < w.heap.size) A (ls.map (Value.int .i64))) (hl : ls.length ≤ 140737488351232) (hr : ∀ x ∈ ls, -9223372036854775808 ≤ x ∧ x ≤ 9223372036854775807)
    (hos : SeesP w (· < w.heap.size) B (os.map (Value.int .i64))) (hol : os.length ≤ 140737488351232) (hor : ∀ x ∈ os, -9223372036854775808 ≤ x ∧ x ≤ 9223372036854775807)
    (h1 : SeesP w (· < w.heap.size) X1 (Ics l1)) (m1 : l1.length * 40 ≤ 140737488351232) (h2 : SeesP w (· < w.heap.size) X2 (Ics l2)) (m2 : l2.length * 40 ≤ 140737488351232) :
    Calls Tryd.prog 6 #[.slice A ls.length c, .slice B os.length cb, .agg #[.slice X1 l1.length c1, .slice X2 l2.length c2]] w fun e w' => e = .returned (.bool true) ∧ Below w.heap.size w w' :=
  law_chooses A c ls B cb os X1 c1 l1 X2 c2 l2 w ht hl hr hs hol hos h1 m1 h2 m2
set_option maxRecDepth 100000 in
theorem lifted (os : Os) (started : os.Started) (H : Type) (enc : TypeId × Value → H) :
    ReturnsInHanded {} Tryd.checked os 6 .any (fun w args => (Rows.securityinfoChoosesSpec.pre enc Tryd.prog Tryd.f6 Rows.securityinfoChoosesRow.domain false w args ∧ laidMetH Tryd.prog laidL w) ∧ sizedMet enc Tryd.prog Tryd.f6 (OpenSpec.ofChange Rows.securityinfoChoosesSpec) false w args)
      (Rows.securityinfoChoosesSpec.post enc Tryd.prog Tryd.f6 false true false false) := by
  refine returnsInHanded_of_change_and (C := Tryd.checked) (X := fun w _ => laidMetH Tryd.prog laidL w) (fun _ _ _ hh h => h.of_heap hh) own started (by kernel_rfl) Tryd.func6
    (ChangeSpec.witness_shaped (enc := enc) (C := Tryd.checked) (os := os) (X := fun w _ => laidMetH Tryd.prog laidL w) false (World.laidAll Tryd.prog os laidL) #[.slice none 0 0, .slice none 0 0, .agg #[.slice none 0 0, .slice none 0 0]] 8 (World.laidAll_os _ _ _)
      (World.shaped_of_ZipB (by kernel_rfl) (by kernel_rfl)) (by kernel_rfl) (by kernel_rfl) (by kernel_rfl)
      (by rw [MakeChecks.laidMetH_plain _ _ _ (by kernel_rfl)]; exact laidMet_laidAll _ (by kernel_rfl) (by kernel_rfl))) ?_
  intro W base args ds gs before hval0 hW hcnd hsz0 hL _
  have hsz : (DataW.weightsEach Tryd.prog (Tryd.f6.params.toList ++ Rows.securityinfoChoosesSpec.plain.varTypes Tryd.prog) (ds ++ gs)).all (· ≤ reachBytes) = true := hsz0
  have hval : ∀ (j : Nat) t v, Tryd.f6.params[j]? = some t → args[j]? = some v → Value.okWide Tryd.prog W .any base t v := hval0
  have hW' := hW
  obtain ⟨p, q, hA0, hV, rfl, hfz, hnd⟩ := hW
  have hA : DataW.TrodAll enc Tryd.prog W 0 (fun _ => true) true Tryd.f6.params.toList args.toList ds p := hA0
  rw [Tryd.params6] at hA hval hsz
  obtain ⟨v0, vs0, d0, ds0, p0, q0, hargs, rfl, rfl, h0, r0⟩ := trodAll_cons hA
  obtain ⟨v1, vs1, d1, ds1, p1, q1, rfl, rfl, rfl, h1, r1⟩ := trodAll_cons r0
  obtain ⟨v2, vs2, d2, ds2, p2, q2, rfl, rfl, rfl, h2, r2⟩ := trodAll_cons r1
  obtain ⟨rfl, rfl, rfl⟩ := trodAll_nil r2
  obtain rfl : args = #[v0, v1, v2] := by cases args; simp_all
  obtain ⟨rfl, rfl⟩ := trodVars_none hV
  obtain ⟨a0, len0, cap0, rfl⟩ := okWide_slice Tryd.underlying34 (hval 0 34 v0 rfl rfl)
  have lt0 : ∀ x ∈ p0, x.block < W.heap.size := by obtain ⟨m, hm⟩ := h0; exact DataW.trod_lt m _ _ _ hm
  obtain ⟨x0, rfl, see0, rng0, hl0, hc0⟩ := open_i64s h0 lt0
  have m0 := reach_i64s hsz (j := 0) rfl rfl hl0 hc0
  obtain ⟨a1, len1, cap1, rfl⟩ := okWide_slice Tryd.underlying34 (hval 1 34 v1 rfl rfl)
  have lt1 : ∀ x ∈ p1, x.block < W.heap.size := by obtain ⟨m, hm⟩ := h1; exact DataW.trod_lt m _ _ _ hm
  obtain ⟨x1, rfl, see1, rng1, hl1, hc1⟩ := open_i64s h1 lt1
  have m1 := reach_i64s hsz (j := 1) rfl rfl hl1 hc1
  have lt2 : ∀ x ∈ p2, x.block < W.heap.size := by obtain ⟨m, hm⟩ := h2; exact DataW.trod_lt m _ _ _ hm
  have wt2 := reach_in hsz (j := 2) (t := 42) (d := d2) rfl rfl
  obtain ⟨x2a, a2a, cap2a, x2b, a2b, cap2b, rfl, see2a, ml2a, see2b, ml2b⟩ := open_infos2 (hval 2 42 v2 rfl rfl) h2 wt2
  clear hA0 hval0
  refine (walk a0 cap0 x0 a1 cap1 x1 a2a cap2a x2a a2b cap2b x2b W (of_laid hL) see0 m0 rng0 see1 m1 rng1 see2a ml2a see2b ml2b).mono fun e W' ⟨he, bel⟩ => ?_
  subst he
  exact ⟨_, rfl, _, _, _, [], _, [], hW', trodAll_mk1 (shut_bool Tryd.underlying4 _), (trodAll_cons_mk (Below.trod laidOut (by kernel_rfl) (of_decide_eq_true (by kernel_rfl)) h0 bel lt0) (trodAll_cons_mk (Below.trod laidOut (by kernel_rfl) (of_decide_eq_true (by kernel_rfl)) h1 bel lt1) (trodAll_cons_mk (Below.trod laidOut (by kernel_rfl) (of_decide_eq_true (by kernel_rfl)) h2 bel lt2) trodAll_mk0))), rfl, bel.frame _, fun h => by cases h⟩
theorem said : Rows.SecurityinfoChoosesSaid :=
  OpenClaim.holds_of_wide 6 Tryd.f6 rfl rfl rfl rfl rfl rfl rfl ⟨rfl, rfl, rfl, rfl, rfl⟩ rfl rfl rfl rfl rfl (by kernel_rfl) Tryd.func6 (by kernel_rfl)
    (of_decide_eq_true (by kernel_rfl)) (by unfold Func.isWrapper; first | (rw [if_pos (by decide +kernel)]; kernel_rfl) | (rw [if_neg (by decide +kernel)]; exact ⟨rfl, rfl⟩))
    (fun os started H enc _ => lifted os started H enc)
theorem proved : Rows.SecurityinfoChoosesCardSaid :=
  Claim7.holds_tied_plain_at .later [] laidKinds true Rows.securityinfoChoosesCard.stood.harness false
    said (fun _ h => by cases h) (by kernel_rfl) (fun _ h => by cases h) securityinfoChooses_row_tie rfl ⟨rfl, rfl⟩ (by kernel_rfl) rfl
    (fun f fn hf hfn => by
      obtain rfl : f = 6 := Option.some.inj ((show Tryd.prog.funcNamed "traveldoc/traveldoclaw14.SecurityinfoChooses" = some 6 by kernel_rfl).symm.trans hf) |>.symm
      obtain rfl : fn = Tryd.f6 := (Option.some.inj (Tryd.func6.symm.trans hfn)).symm
      exact ⟨by kernel_rfl, fun j t ht => by
        rw [Tryd.params6] at ht
        have hm : t ∈ [34, 34, 42] := by simpa using Array.mem_of_getElem? ht
        have hall : ([34, 34, 42].all fun u => !Tryd.prog.wantsStandIn u) = true := by kernel_rfl
        exact (show Tryd.prog.wantsStandIn t = false by simpa using List.all_eq_true.1 hall t hm)⟩)
    (by kernel_rfl)
end Go.Proofs.YtcapbojjceeapaaDoor.securityinfoChooses
