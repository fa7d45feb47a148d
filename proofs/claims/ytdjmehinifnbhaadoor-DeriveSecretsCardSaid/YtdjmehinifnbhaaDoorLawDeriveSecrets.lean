/-
  What is proved here: for all bytes, the program's Secret returns what the reference's returns, and its number is a secret of the group (the statement DeriveSecrets), where the tables start as the program's text lays them; no other condition.
-/
import Derived.Test.YtdjmehinifnbhaaDoorOp4
import Derived.Test.YtdjmehinifnbhaaDoorDs
namespace Go.Proofs.YtdjmehinifnbhaaDoor.deriveSecrets
open Go.ChangeShapes Go.WideShapes Go.ChangeAt Go.RowKit
open Go.ChangeMaps (open_string shut_string)
set_option linter.unusedVariables false

abbrev laidL := laidL3
abbrev laidKinds := laidKinds3
theorem of_laid {W : World} (h : laidMetH Tryd.prog laidL W) : TabA W ∧ TabR W := of_laid3 h
theorem lim32 : 32 ≤ 140737488351300 := by decide
set_option maxHeartbeats 400000 in
theorem walk (A : Option Addr) (c : Nat) (x : List UInt8) (w : World) (ht : TabA w ∧ TabR w) (hs : Sees w w.heap.size A (Us x)) (m : x.length ≤ 140737488351232) (hn : A = none → c = 0) :
    Calls Tryd.prog 5 #[.slice A x.length c] w fun e w' => e = .returned (.bool true) ∧ Below w.heap.size w w' := by
  obtain ⟨N, hN⟩ : ∃ N, x.length = N := ⟨_, rfl⟩
  rw [hN] at m ⊢
  have hk := fun (w : World) => secret_ok (x := x) (A := A) (a := N) (c := c) (w := w) hN (by omega)
  have hr := fun (w : World) => ref_secret_ok (x := x) (A := A) (a := N) (c := c) (w := w) hN (by omega) hn
  have hi := secN_in x
  have hl : (nextL x).length = 32 := sumL_len _
  generalize secN x = K at hk hr hi
  generalize nextL x = X at hk hr hl
  have i1 : (1 : Int) ≤ (K : Int) := by omega
  have i2 : (K : Int) < 1073741789 := by omega
  have H := Lib.hid (show _ ∧ _ ∧ _ ∧ _ ∧ _ from ⟨ht, SeesP.iff_sees.2 hs, hk, hr, hl⟩)
  clear ht hs hk hr hl hi hN hn
  go_enter Tryd.func5, Tryd.ntmps5
  go_wp2_with (first
    | (go_at_call 13; ((with_reducible refine (H.out.2.2.1 _ H.out.2.1 H.out.1.1).mono ?_); rintro e w1 ⟨B1, d1, rfl, s1, b1⟩); have H1 := Lib.hid (show _ ∧ _ ∧ _ ∧ _ ∧ _ from ⟨s1, b1, H.out.2.1.ony b1, H.out.1.1.below b1, H.out.1.2.below b1⟩); clear s1 b1)
    | (go_at_call 14; ((with_reducible refine (H.out.2.2.2.1 _ H1.out.2.2.1 H1.out.2.2.2.2).mono ?_); rintro e w2 ⟨B2, d2, rfl, s2, b2⟩); have H2 := Lib.hid (show _ ∧ _ ∧ _ ∧ _ from ⟨s2, H1.out.1.ony b2, below_on H1.out.2.1 b2, H1.out.2.2.2.1.below b2⟩); clear s2 b2)
    | (go_at_call 9; ((with_reducible refine (awake _ H2.out.2.2.2).mono ?_); rintro e w3 ⟨rfl, b3⟩); have H3 := Lib.hid (show _ ∧ _ ∧ _ from ⟨H2.out.1.ony b3, H2.out.2.1.ony b3, below_on H2.out.2.2.1 b3⟩); clear b3)
    | (go_at_call 10; ((with_reducible refine (same_n H.out.2.2.2.2 lim32 H3.out.2.1 H3.out.1).mono ?_); rintro e w4 ⟨rfl, b4⟩); have H4 := Lib.hid (below_on H3.out.2.2 b4); clear b4))
  go_ret
  exact ⟨rfl, H4.out⟩

/-! ### the given statement, out of the walk -/
set_option maxRecDepth 100000 in
theorem lifted (os : Os) (started : os.Started) (H : Type) (enc : TypeId × Value → H) :
    ReturnsInHanded {} Tryd.checked os 5 .any (fun w args => (Rows.deriveSecretsSpec.pre enc Tryd.prog Tryd.f5 Rows.deriveSecretsRow.domain false w args ∧ laidMetH Tryd.prog laidL w) ∧ sizedMet enc Tryd.prog Tryd.f5 (OpenSpec.ofChange Rows.deriveSecretsSpec) false w args)
      (Rows.deriveSecretsSpec.post enc Tryd.prog Tryd.f5 false true false false) := by
  refine returnsInHanded_of_change_and (C := Tryd.checked) (X := fun w _ => laidMetH Tryd.prog laidL w) (fun _ _ _ hh h => h.of_heap hh) own started (by kernel_rfl) Tryd.func5
    (ChangeSpec.witness_shaped (enc := enc) (C := Tryd.checked) (os := os) (X := fun w _ => laidMetH Tryd.prog laidL w) false (World.laidAll Tryd.prog os laidL) #[.slice none 0 0] 8 (World.laidAll_os _ _ _)
      (World.shaped_of_ZipB (by kernel_rfl) (by kernel_rfl)) (by kernel_rfl) (by kernel_rfl) (by kernel_rfl)
      (by rw [MakeChecks.laidMetH_plain _ _ _ (by kernel_rfl)]; exact laidMet_laidAll _ (by kernel_rfl) (by kernel_rfl))) ?_
  intro W base args ds gs before hval0 hW hcnd hsz0 hL _
  have hsz : (DataW.weightsEach Tryd.prog (Tryd.f5.params.toList ++ Rows.deriveSecretsSpec.plain.varTypes Tryd.prog) (ds ++ gs)).all (· ≤ reachBytes) = true := hsz0
  have hval : ∀ (j : Nat) t v, Tryd.f5.params[j]? = some t → args[j]? = some v → Value.okWide Tryd.prog W .any base t v := hval0
  have hW' := hW
  obtain ⟨p, q, hA0, hV, rfl, hfz, hnd⟩ := hW
  have hA : DataW.TrodAll enc Tryd.prog W 0 (fun _ => true) true Tryd.f5.params.toList args.toList ds p := hA0
  rw [Tryd.params5] at hA hval hsz
  obtain ⟨v0, vs0, d0, ds0, p0, q0, hargs, rfl, rfl, h0, r0⟩ := trodAll_cons hA
  obtain ⟨rfl, rfl, rfl⟩ := trodAll_nil r0
  obtain rfl : args = #[v0] := by cases args; simp_all
  obtain ⟨rfl, rfl⟩ := trodVars_none hV
  obtain ⟨a0, len0, cap0, rfl⟩ := okWide_slice Tryd.underlying22 (hval 0 22 v0 rfl rfl)
  have lt0 : ∀ x ∈ p0, x.block < W.heap.size := by obtain ⟨m, hm⟩ := h0; exact DataW.trod_lt m _ _ _ hm
  obtain ⟨x0, rfl, see0, hl0, nn0, hc0⟩ := open_u8s h0 lt0
  have m0 := reach_u8s hsz (j := 0) rfl rfl hl0 hc0
  clear hA0 hval0
  refine (walk a0 cap0 x0 W (of_laid hL) see0 m0 nn0).mono fun e W' ⟨he, bel⟩ => ?_
  subst he
  exact ⟨_, rfl, _, _, _, [], _, [], hW', trodAll_mk1 (shut_bool Tryd.underlying4 _), (trodAll_cons_mk (Below.trod laidOut (by kernel_rfl) (of_decide_eq_true (by kernel_rfl)) h0 bel lt0) trodAll_mk0), rfl, bel.frame _, fun h => by cases h⟩

theorem said : Rows.DeriveSecretsSaid :=
  OpenClaim.holds_of_wide 5 Tryd.f5 rfl rfl rfl rfl rfl rfl rfl ⟨rfl, rfl, rfl, rfl, rfl⟩ rfl rfl rfl rfl rfl (by kernel_rfl) Tryd.func5 (by kernel_rfl)
    (of_decide_eq_true (by kernel_rfl)) (by unfold Func.isWrapper; first | (rw [if_pos (by decide +kernel)]; kernel_rfl) | (rw [if_neg (by decide +kernel)]; exact ⟨rfl, rfl⟩))
    (fun os started H enc _ => lifted os started H enc)
theorem proved : Rows.DeriveSecretsCardSaid :=
  Claim7.holds_tied_plain_at .later [] laidKinds true Rows.deriveSecretsCard.stood.harness false
    said (fun _ h => by cases h) (by kernel_rfl) (fun _ h => by cases h) deriveSecrets_row_tie rfl ⟨rfl, rfl⟩ (by kernel_rfl) rfl
    (fun f fn hf hfn => by
      obtain rfl : f = 5 := Option.some.inj ((show Tryd.prog.funcNamed "traveldoc/traveldoclaw07.DeriveSecrets" = some 5 by kernel_rfl).symm.trans hf) |>.symm
      obtain rfl : fn = Tryd.f5 := (Option.some.inj (Tryd.func5.symm.trans hfn)).symm
      exact ⟨by kernel_rfl, fun j t ht => by
        rw [Tryd.params5] at ht
        have hm : t ∈ [22] := by simpa using Array.mem_of_getElem? ht
        have hall : ([22].all fun u => !Tryd.prog.wantsStandIn u) = true := by kernel_rfl
        exact (show Tryd.prog.wantsStandIn t = false by simpa using List.all_eq_true.1 hall t hm)⟩)
    (by kernel_rfl)
end Go.Proofs.YtdjmehinifnbhaaDoor.deriveSecrets
