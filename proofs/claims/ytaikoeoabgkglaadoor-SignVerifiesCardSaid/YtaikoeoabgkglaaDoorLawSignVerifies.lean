/-
  What is proved here: for all numbers and all bytes, the program's Verify reports what the reference's reports (the statement SignVerifies), where the tables start as the program's text lays them; no other condition.
-/
import Derived.Test.YtaikoeoabgkglaaDoorOp4
import Derived.Test.YtaikoeoabgkglaaDoorOa
import Derived.Test.YtaikoeoabgkglaaDoorSw
namespace Go.Proofs.YtaikoeoabgkglaaDoor.signVerifies
open Go.ChangeShapes Go.WideShapes Go.ChangeAt Go.RowKit
open Go.ChangeMaps (open_string shut_string)
set_option linter.unusedVariables false

abbrev laidL := laidL3
abbrev laidKinds := laidKinds3
theorem of_laid {W : World} (h : laidMetH Tryd.prog laidL W) : TabA W ∧ TabR W := of_laid3 h
set_option maxRecDepth 40000 in
set_option maxHeartbeats 1000000 in
theorem walk (p : Int) (A : Option Addr) (c : Nat) (x : List UInt8) (e s : Int) (w : World) (ht : TabA w ∧ TabR w) (wk : (Lit.int .i64 p).wf = true) (hs : Sees w w.heap.size A (Us x)) (m : x.length ≤ 140737488351232) (hn : A = none → c = 0) (we : (Lit.int .i64 e).wf = true) (ws : (Lit.int .i64 s).wf = true) :
    Calls Tryd.prog 4 #[.int .i64 p, .slice A x.length c, .agg #[.int .i64 e, .int .i64 s]] w fun e w' => e = .returned (.bool true) ∧ Below w.heap.size w w' := by
  obtain ⟨N, hN⟩ : ∃ N, x.length = N := ⟨_, rfl⟩
  rw [hN] at m ⊢
  have hx : InB w A N c x := ⟨hN, by omega, hn, SeesP.iff_sees.2 hs⟩
  have HB := Lib.hid (Below.refl w.heap.size w)
  have p1 := fun (w : World) (hx : InB w A N c x) (ht : TabA w) => sg_verify (p := p) (e := e) (s := s) (x := x) (A := A) (a := N) (c := c) (w := w) hx ht
  have r1 := fun (w : World) (hx : InB w A N c x) (ht : TabR w) => ref_verify (p := p) (e := e) (s := s) (x := x) (A := A) (a := N) (c := c) (w := w) hx ht
  generalize vfB p x e s = b at *
  have H := Lib.hid (show _ ∧ _ ∧ _ ∧ _ ∧ _ from ⟨hx, ht.1, ht.2, p1, r1⟩)
  clear ht wk hs hn hx we ws p1 r1 hN
  go_enter Tryd.func4, Tryd.ntmps4
  go_wp2_with fail
  obtain ⟨w2, hw2⟩ : ∃ w2, w2 = w.alloc (.cells #[.int .i64 e, .int .i64 s] 24) := ⟨_, rfl⟩
  have H2 := Lib.hid (show Below w.heap.size w w2 ∧ RowV w2 w.heap.size [.int .i64 e, .int .i64 s] from by rw [hw2]; exact ⟨below_al w _, row_al2 w e s _⟩)
  rw [← hw2]
  clear hw2
  have q0 := quiet_up (w := w2) fun w' hb => awake w' ((H.out.2.1.below H2.out.1).below hb)
  have q1 := quiet_up (w := w2) fun w' hb => H.out.2.2.2.1 w' ((H.out.1.on H2.out.1).on hb) ((H.out.2.1.below H2.out.1).below hb)
  have q2 := quiet_up (w := w2) fun w' hb => H.out.2.2.2.2 w' ((H.out.1.on H2.out.1).on hb) ((H.out.2.2.1.below H2.out.1).below hb)
  have l0 := H2.out.2.quiet (k := 0) rfl
  have l1 := H2.out.2.quiet (k := 1) rfl
  refine wp_region_quiet_below (by kernel_rfl) (by kernel_rfl) ?_
  repeat (quiet_step (first | with_reducible exact q0 _ _ | with_reducible exact q1 _ _ | with_reducible exact q2 _ _))
  refine wpQuiet_nil ?_
  intro w3 hw3
  have H3 := Lib.hid (below_on H2.out.1 (below_of_regrown hw3))
  clear hw3 q0 q1 q2 l0 l1
  go_wp2
  go_ret
  exact ⟨rfl, H3.out⟩

/-! ### the given statement, out of the walk -/
set_option maxRecDepth 100000 in
theorem lifted (os : Os) (started : os.Started) (H : Type) (enc : TypeId × Value → H) :
    ReturnsInHanded {} Tryd.checked os 4 .any (fun w args => (Rows.signVerifiesSpec.pre enc Tryd.prog Tryd.f4 Rows.signVerifiesRow.domain false w args ∧ laidMetH Tryd.prog laidL w) ∧ sizedMet enc Tryd.prog Tryd.f4 (OpenSpec.ofChange Rows.signVerifiesSpec) false w args)
      (Rows.signVerifiesSpec.post enc Tryd.prog Tryd.f4 false true false false) := by
  refine returnsInHanded_of_change_and (C := Tryd.checked) (X := fun w _ => laidMetH Tryd.prog laidL w) (fun _ _ _ hh h => h.of_heap hh) own started (by kernel_rfl) Tryd.func4
    (ChangeSpec.witness_shaped (enc := enc) (C := Tryd.checked) (os := os) (X := fun w _ => laidMetH Tryd.prog laidL w) false (World.laidAll Tryd.prog os laidL) #[.int .i64 0, .slice none 0 0, .agg #[.int .i64 0, .int .i64 0]] 8 (World.laidAll_os _ _ _)
      (World.shaped_of_ZipB (by kernel_rfl) (by kernel_rfl)) (by kernel_rfl) (by kernel_rfl) (by kernel_rfl)
      (by rw [MakeChecks.laidMetH_plain _ _ _ (by kernel_rfl)]; exact laidMet_laidAll _ (by kernel_rfl) (by kernel_rfl))) ?_
  intro W base args ds gs before hval0 hW hcnd hsz0 hL _
  have hsz : (DataW.weightsEach Tryd.prog (Tryd.f4.params.toList ++ Rows.signVerifiesSpec.plain.varTypes Tryd.prog) (ds ++ gs)).all (· ≤ reachBytes) = true := hsz0
  have hval : ∀ (j : Nat) t v, Tryd.f4.params[j]? = some t → args[j]? = some v → Value.okWide Tryd.prog W .any base t v := hval0
  have hW' := hW
  obtain ⟨p, q, hA0, hV, rfl, hfz, hnd⟩ := hW
  have hA : DataW.TrodAll enc Tryd.prog W 0 (fun _ => true) true Tryd.f4.params.toList args.toList ds p := hA0
  rw [Tryd.params4] at hA hval hsz
  obtain ⟨v0, vs0, d0, ds0, p0, q0, hargs, rfl, rfl, h0, r0⟩ := trodAll_cons hA
  obtain ⟨v1, vs1, d1, ds1, p1, q1, rfl, rfl, rfl, h1, r1⟩ := trodAll_cons r0
  obtain ⟨v2, vs2, d2, ds2, p2, q2, rfl, rfl, rfl, h2, r2⟩ := trodAll_cons r1
  obtain ⟨rfl, rfl, rfl⟩ := trodAll_nil r2
  obtain rfl : args = #[v0, v1, v2] := by cases args; simp_all
  obtain ⟨rfl, rfl⟩ := trodVars_none hV
  obtain ⟨n0, rfl, rfl, rfl, w0⟩ := open_int Tryd.underlying3 (hval 0 3 v0 rfl rfl) h0
  obtain ⟨a1, len1, cap1, rfl⟩ := okWide_slice Tryd.underlying22 (hval 1 22 v1 rfl rfl)
  have lt1 : ∀ x ∈ p1, x.block < W.heap.size := by obtain ⟨m, hm⟩ := h1; exact DataW.trod_lt m _ _ _ hm
  obtain ⟨x1, rfl, see1, hl1, nn1, hc1⟩ := open_u8s h1 lt1
  have m1 := reach_u8s hsz (j := 1) rfl rfl hl1 hc1
  obtain ⟨n2a, n2b, rfl, rfl, rfl, w2a, w2b⟩ := open_st2 Tryd.underlying24 (by kernel_rfl) (by kernel_rfl) Tryd.underlying3 Tryd.underlying3 (hval 2 24 v2 rfl rfl) h2
  clear hA0 hval0
  refine (walk n0 a1 cap1 x1 n2a n2b W (of_laid hL) w0 see1 m1 nn1 w2a w2b).mono fun e W' ⟨he, bel⟩ => ?_
  subst he
  exact ⟨_, rfl, _, _, _, [], _, [], hW', trodAll_mk1 (shut_bool Tryd.underlying4 _), (trodAll_cons_mk (shut_int Tryd.underlying3 w0) (trodAll_cons_mk (Below.trod laidOut (by kernel_rfl) (of_decide_eq_true (by kernel_rfl)) h1 bel lt1) (trodAll_cons_mk (shut_st2 Tryd.underlying24 (by kernel_rfl) (by kernel_rfl) Tryd.underlying3 Tryd.underlying3 w2a w2b) trodAll_mk0))), rfl, bel.frame _, fun h => by cases h⟩

theorem said : Rows.SignVerifiesSaid :=
  OpenClaim.holds_of_wide 4 Tryd.f4 rfl rfl rfl rfl rfl rfl rfl ⟨rfl, rfl, rfl, rfl, rfl⟩ rfl rfl rfl rfl rfl (by kernel_rfl) Tryd.func4 (by kernel_rfl)
    (of_decide_eq_true (by kernel_rfl)) (by unfold Func.isWrapper; first | (rw [if_pos (by decide +kernel)]; kernel_rfl) | (rw [if_neg (by decide +kernel)]; exact ⟨rfl, rfl⟩))
    (fun os started H enc _ => lifted os started H enc)
theorem proved : Rows.SignVerifiesCardSaid :=
  Claim7.holds_tied_plain_at .later [] laidKinds true Rows.signVerifiesCard.stood.harness false
    said (fun _ h => by cases h) (by kernel_rfl) (fun _ h => by cases h) signVerifies_row_tie rfl ⟨rfl, rfl⟩ (by kernel_rfl) rfl
    (fun f fn hf hfn => by
      obtain rfl : f = 4 := Option.some.inj ((show Tryd.prog.funcNamed "traveldoc/traveldoclaw09.SignVerifies" = some 4 by kernel_rfl).symm.trans hf) |>.symm
      obtain rfl : fn = Tryd.f4 := (Option.some.inj (Tryd.func4.symm.trans hfn)).symm
      exact ⟨by kernel_rfl, fun j t ht => by
        rw [Tryd.params4] at ht
        have hm : t ∈ [3, 22, 24] := by simpa using Array.mem_of_getElem? ht
        have hall : ([3, 22, 24].all fun u => !Tryd.prog.wantsStandIn u) = true := by kernel_rfl
        exact (show Tryd.prog.wantsStandIn t = false by simpa using List.all_eq_true.1 hall t hm)⟩)
    (by kernel_rfl)
end Go.Proofs.YtaikoeoabgkglaaDoor.signVerifies
