/-
  What is proved here: for all bytes and every two numbers of a byte, Draw of fewer bytes returns a beginning of what Draw of more returns, with the same next seed (the statement DeriveBegins), where the program's tables start as the program's text lays them; no other condition.
-/
import Derived.Test.YtdjmehinifnbhaaDoorOp4
import Derived.Test.YtdjmehinifnbhaaDoorDs
namespace Go.Proofs.YtdjmehinifnbhaaDoor.deriveBegins
open Go.ChangeShapes Go.WideShapes Go.ChangeAt Go.RowKit
open Go.ChangeMaps (open_string shut_string)
set_option linter.unusedVariables false

theorem lim32 : 32 ≤ 140737488351300 := by decide
theorem u8_nat {n : Int} (h : (Lit.int .u8 n).wf = true) : ∃ k : Nat, n = (k : Int) ∧ k ≤ 255 := by
  have hx : 0 ≤ n ∧ n ≤ 255 := by simpa [Lit.wf, IntKind.min, IntKind.max, IntKind.signed, IntKind.bits] using h
  exact ⟨n.toNat, by omega, by omega⟩
set_option maxHeartbeats 400000 in
theorem walk (A : Option Addr) (c : Nat) (x : List UInt8) (i j : Int) (w : World) (ht : TabA w) (hs : Sees w w.heap.size A (Us x)) (m : x.length ≤ 140737488351232) (hn : A = none → c = 0) (wi : (Lit.int .u8 i).wf = true) (wj : (Lit.int .u8 j).wf = true) :
    Calls Tryd.prog 6 #[.slice A x.length c, .int .u8 i, .int .u8 j] w fun e w' => e = .returned (.bool true) ∧ Below w.heap.size w w' := by
  obtain ⟨a, rfl, ha⟩ := u8_nat wi
  obtain ⟨b, rfl, hb⟩ := u8_nat wj
  obtain ⟨N, hN⟩ : ∃ N, x.length = N := ⟨_, rfl⟩
  rw [hN] at m ⊢
  have h1 := fun (w : World) => draw_yes (x := x) (A := A) (a := N) (c := c) (n := a) (w := w) hN (by omega) (by omega)
  have h2 := fun (w : World) => draw_yes (x := x) (A := A) (a := N) (c := c) (n := a + b) (w := w) hN (by omega) (by omega)
  have e1 := drawL_len x a
  have e2 := drawL_take x (Nat.le_add_right a b)
  have e3 : (nextL x).length = 32 := sumL_len _
  generalize drawL x a = P at h1 e1 e2
  generalize drawL x (a + b) = Q at h2 e2
  generalize nextL x = X at h1 h2 e3
  obtain ⟨s, hsm⟩ : ∃ s, s = a + b := ⟨_, rfl⟩
  rw [← hsm] at h2
  have hsi : (a : Int) + (b : Int) = (s : Int) := by omega
  have hsa : a ≤ s := by omega
  have H := Lib.hid (show _ ∧ _ ∧ _ ∧ _ from ⟨ht, SeesP.iff_sees.2 hs, h1, h2⟩)
  have HL := Lib.hid (show P.length = a ∧ Q.take a = P ∧ X.length = 32 ∧ a ≤ 140737488351300 from ⟨e1, e2, e3, by omega⟩)
  clear ht hs h1 h2 e1 e2 e3 hN hn wi wj hsm
  go_enter Tryd.func6, Tryd.ntmps6
  go_wp2_with (first
    | (go_at_call 11; ((with_reducible refine (H.out.2.2.2 _ H1.out.2.2.2.1 H1.out.2.2.2.2).mono ?_); rintro e w2 ⟨A2, c2, B2, d2, rfl, l2, s2, t2, b2⟩); have hca : a ≤ c2 := (by omega); have H2 := Lib.hid (show _ ∧ _ ∧ _ ∧ _ ∧ _ ∧ _ from ⟨H1.out.1.ony b2, HL.out.2.1 ▸ s2.first a, H1.out.2.1.ony b2, t2, below_on H1.out.2.2.1 b2, H1.out.2.2.2.2.below b2⟩); clear l2 s2 t2 b2)
    | (go_at_call 11; ((with_reducible refine (H.out.2.2.1 _ H.out.2.1 H.out.1).mono ?_); rintro e w1 ⟨A1, c1, B1, d1, rfl, l1, s1, t1, b1⟩); have H1 := Lib.hid (show _ ∧ _ ∧ _ ∧ _ ∧ _ from ⟨s1, t1, b1, H.out.2.1.ony b1, H.out.1.below b1⟩); clear l1 s1 t1 b1)
    | (go_at_call 9; ((with_reducible refine (awake _ H2.out.2.2.2.2.2).mono ?_); rintro e w3 ⟨rfl, b3⟩); have H3 := Lib.hid (show _ ∧ _ ∧ _ ∧ _ ∧ _ from ⟨H2.out.1.ony b3, H2.out.2.1.ony b3, H2.out.2.2.1.ony b3, H2.out.2.2.2.1.ony b3, below_on H2.out.2.2.2.2.1 b3⟩); clear b3)
    | (go_at_call 10; ((with_reducible refine (same_n HL.out.2.2.1 lim32 H4.out.1 H4.out.2.1).mono ?_); rintro e w5 ⟨rfl, b5⟩); have H5 := Lib.hid (below_on H4.out.2.2 b5); clear b5)
    | (go_at_call 10; ((with_reducible refine (same_n HL.out.1 HL.out.2.2.2 H3.out.1 H3.out.2.1).mono ?_); rintro e w4 ⟨rfl, b4⟩); have H4 := Lib.hid (show _ ∧ _ ∧ _ from ⟨H3.out.2.2.1.ony b4, H3.out.2.2.2.1.ony b4, below_on H3.out.2.2.2.2 b4⟩); clear b4))
  go_ret
  exact ⟨rfl, H5.out⟩

/-! ### the given statement, out of the walk -/
set_option maxRecDepth 100000 in
theorem lifted (os : Os) (started : os.Started) (H : Type) (enc : TypeId × Value → H) :
    ReturnsInHanded {} Tryd.checked os 6 .any (fun w args => (Rows.deriveBeginsSpec.pre enc Tryd.prog Tryd.f6 Rows.deriveBeginsRow.domain false w args ∧ laidMetH Tryd.prog laidL w) ∧ sizedMet enc Tryd.prog Tryd.f6 (OpenSpec.ofChange Rows.deriveBeginsSpec) false w args)
      (Rows.deriveBeginsSpec.post enc Tryd.prog Tryd.f6 false true false false) := by
  refine returnsInHanded_of_change_and (C := Tryd.checked) (X := fun w _ => laidMetH Tryd.prog laidL w) (fun _ _ _ hh h => h.of_heap hh) own started (by kernel_rfl) Tryd.func6
    (ChangeSpec.witness_shaped (enc := enc) (C := Tryd.checked) (os := os) (X := fun w _ => laidMetH Tryd.prog laidL w) false (World.laidAll Tryd.prog os laidL) #[.slice none 0 0, .int .u8 0, .int .u8 0] 8 (World.laidAll_os _ _ _)
      (World.shaped_of_ZipB (by kernel_rfl) (by kernel_rfl)) (by kernel_rfl) (by kernel_rfl) (by kernel_rfl)
      (by rw [MakeChecks.laidMetH_plain _ _ _ (by kernel_rfl)]; exact laidMet_laidAll _ (by kernel_rfl) (by kernel_rfl))) ?_
  intro W base args ds gs before hval0 hW hcnd hsz0 hL _
  have hsz : (DataW.weightsEach Tryd.prog (Tryd.f6.params.toList ++ Rows.deriveBeginsSpec.plain.varTypes Tryd.prog) (ds ++ gs)).all (· ≤ reachBytes) = true := hsz0
  have hval : ∀ (j : Nat) t v, Tryd.f6.params[j]? = some t → args[j]? = some v → Value.okWide Tryd.prog W .any base t v := hval0
  have hW' := hW
  obtain ⟨p, q, hA0, hV, rfl, hfz, hnd⟩ := hW
  have hA : DataW.TrodAll enc Tryd.prog W 0 (fun _ => true) true Tryd.f6.params.toList args.toList ds p := hA0
  rw [Tryd.params6] at hA hval hsz
  obtain ⟨v0, vs0, d0, ds0, p0, q0, hargs, rfl, rfl, h0, r0⟩ := trodAll_cons hA
  obtain ⟨v1, vs1, d1, ds1, p1, q1, rfl, rfl, rfl, h1, r1⟩ := trodAll_cons r0
  obtain ⟨v2, vs2, d2, ds2, p2, q2, rfl, rfl, rfl, h2, r2⟩ := trodAll_cons r1
  obtain ⟨rfl, rfl, rfl⟩ := trodAll_nil r2
  obtain rfl : args = #[v0, v1, v2] := by cases args; simp_all
  obtain ⟨rfl, rfl⟩ := trodVars_none hV
  obtain ⟨a0, len0, cap0, rfl⟩ := okWide_slice Tryd.underlying22 (hval 0 22 v0 rfl rfl)
  have lt0 : ∀ x ∈ p0, x.block < W.heap.size := by obtain ⟨m, hm⟩ := h0; exact DataW.trod_lt m _ _ _ hm
  obtain ⟨x0, rfl, see0, hl0, nn0, hc0⟩ := open_u8s h0 lt0
  have m0 := reach_u8s hsz (j := 0) rfl rfl hl0 hc0
  obtain ⟨n1, rfl, rfl, rfl, w1⟩ := open_int Tryd.underlying5 (hval 1 5 v1 rfl rfl) h1
  obtain ⟨n2, rfl, rfl, rfl, w2⟩ := open_int Tryd.underlying5 (hval 2 5 v2 rfl rfl) h2
  clear hA0 hval0
  refine (walk a0 cap0 x0 n1 n2 W (of_laid hL) see0 m0 nn0 w1 w2).mono fun e W' ⟨he, bel⟩ => ?_
  subst he
  exact ⟨_, rfl, _, _, _, [], _, [], hW', trodAll_mk1 (shut_bool Tryd.underlying4 _), (trodAll_cons_mk (Below.trod laidOut (by kernel_rfl) (of_decide_eq_true (by kernel_rfl)) h0 bel lt0) (trodAll_cons_mk (shut_int Tryd.underlying5 w1) (trodAll_cons_mk (shut_int Tryd.underlying5 w2) trodAll_mk0))), rfl, bel.frame _, fun h => by cases h⟩

theorem said : Rows.DeriveBeginsSaid :=
  OpenClaim.holds_of_wide 6 Tryd.f6 rfl rfl rfl rfl rfl rfl rfl ⟨rfl, rfl, rfl, rfl, rfl⟩ rfl rfl rfl rfl rfl (by kernel_rfl) Tryd.func6 (by kernel_rfl)
    (of_decide_eq_true (by kernel_rfl)) (by unfold Func.isWrapper; first | (rw [if_pos (by decide +kernel)]; kernel_rfl) | (rw [if_neg (by decide +kernel)]; exact ⟨rfl, rfl⟩))
    (fun os started H enc _ => lifted os started H enc)
theorem proved : Rows.DeriveBeginsCardSaid :=
  Claim7.holds_tied_plain_at .later [] laidKinds true Rows.deriveBeginsCard.stood.harness false
    said (fun _ h => by cases h) (by kernel_rfl) (fun _ h => by cases h) deriveBegins_row_tie rfl ⟨rfl, rfl⟩ (by kernel_rfl) rfl
    (fun f fn hf hfn => by
      obtain rfl : f = 6 := Option.some.inj ((show Tryd.prog.funcNamed "traveldoc/traveldoclaw07.DeriveBegins" = some 6 by kernel_rfl).symm.trans hf) |>.symm
      obtain rfl : fn = Tryd.f6 := (Option.some.inj (Tryd.func6.symm.trans hfn)).symm
      exact ⟨by kernel_rfl, fun j t ht => by
        rw [Tryd.params6] at ht
        have hm : t ∈ [22, 5, 5] := by simpa using Array.mem_of_getElem? ht
        have hall : ([22, 5, 5].all fun u => !Tryd.prog.wantsStandIn u) = true := by kernel_rfl
        exact (show Tryd.prog.wantsStandIn t = false by simpa using List.all_eq_true.1 hall t hm)⟩)
    (by kernel_rfl)
end Go.Proofs.YtdjmehinifnbhaaDoor.deriveBegins
