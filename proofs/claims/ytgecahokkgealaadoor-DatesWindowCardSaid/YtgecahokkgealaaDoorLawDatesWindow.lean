/-
  What is proved here: for every two numbers, a day is read again from its text if its year lies in the hundred years that begin with the first one, and not otherwise (the statement DatesWindow), where the table of the months starts as the program's text lays it; no other condition.
-/
import Derived.Test.YtgecahokkgealaaDoorDwn
import Derived.Test.YtgecahokkgealaaDoorMod
import Derived.Test.YtgecahokkgealaaDoorLay3
namespace Go.Proofs.YtgecahokkgealaaDoor.datesWindow
open Go.ChangeShapes Go.WideShapes Go.ChangeAt Go.RowKit
open Go.ChangeMaps (open_string shut_string)
set_option linter.unusedVariables false

set_option maxHeartbeats 1000000 in
theorem walk (n0 n1 : Int) (w : World) (ht : Tab w) (m0 : (Lit.int .i64 n0).wf = true) (m1 : (Lit.int .i64 n1).wf = true) :
    Calls Tryd.prog 8 #[.int .i64 n0, .int .i64 n1] w fun e w' => e = .returned (.bool true) ∧ Below w.heap.size w w' := by
  have hx : -9223372036854775808 ≤ n0 ∧ n0 ≤ 9223372036854775807 := by simpa [Lit.wf, IntKind.min, IntKind.max, IntKind.signed, IntKind.bits] using m0
  have hz : -9223372036854775808 ≤ n1 ∧ n1 ≤ 9223372036854775807 := by simpa [Lit.wf, IntKind.min, IntKind.max, IntKind.signed, IntKind.bits] using m1
  clear m0 m1
  have HM := Lib.hid (made_mod n0 73049 hx.1 hx.2 (by omega) (by omega) w)
  have HK := Lib.hid (made_mod n1 101 hz.1 hz.2 (by omega) (by omega) w)
  obtain ⟨day, hn⟩ : ∃ b, b = n0 % 73049 := ⟨_, rfl⟩
  obtain ⟨k, hk⟩ : ∃ b, b = n1 % 101 := ⟨_, rfl⟩
  have h1 : 0 ≤ day := by omega
  have h2 : day ≤ 73048 := by omega
  have k1 : 0 ≤ k := by omega
  have k2 : k ≤ 100 := by omega
  rw [← hn] at HM
  rw [← hk] at HK
  clear hn hx hz hk
  obtain ⟨y, m, d, h⟩ := dt_of day h1 h2
  have hl : (S (fL day)).size ≤ maxLen := by rw [S_size]; unfold maxLen; rcases fL_length day with e | e <;> omega
  have HS := Lib.hid hl
  have EP := Lib.hid (dt_eq h).2.2.2
  have hy := h.2.2.1
  have hy2 := h.2.2.2.1
  clear hl
  by_cases g1 : 1900 + k ≤ y
  · by_cases g2 : y < 1900 + k + 100
    · have HV := Lib.hid (ps_in h (f := 1900 + k) (by omega) (by omega) g1 g2)
      have P1 := Lib.hid (fun w ht => parts_dt h w ht)
      clear h
      go_enter Tryd.func8, Tryd.ntmps8
      go_wp2_with fail
      refine HM.out.mono ?_
      rintro e w1 ⟨rfl, rfl⟩
      clear HM
      go_wp2_with fail
      refine HK.out.mono ?_
      rintro e w1 ⟨rfl, rfl⟩
      clear HK
      go_wp2_with fail
      refine (P1.out _ ht).mono ?_
      rintro e w2 ⟨rfl, rfl⟩
      go_wp2_with fail
      refine (day_format day _ ht).mono ?_
      rintro e w3 ⟨he, hb⟩
      rw [EP.out] at he
      subst he
      have ht := ht.on hb ht.1
      have HB := Lib.hid hb
      clear hb
      go_wp2_with fail
      refine (day_parse (S (fL day)) (1900 + k) w3 ht HS.out).mono ?_
      rintro e w4 ⟨he, hb⟩
      have ht := ht.on hb ht.1
      have HB := Lib.hid (below_on HB.out hb)
      clear hb
      rw [HV.out.1, HV.out.2] at he
      subst he
      go_wp2_with fail
      refine (day_awake _ ht).mono ?_
      rintro e w6 ⟨rfl, hb⟩
      have HB := Lib.hid (below_on HB.out hb)
      clear hb
      go_wp2
      go_ret
      exact ⟨rfl, HB.out⟩
    · have HV := Lib.hid (ps_out h (f := 1900 + k) (by omega) (by omega) (by omega))
      have P1 := Lib.hid (fun w ht => parts_dt h w ht)
      clear h
      go_enter Tryd.func8, Tryd.ntmps8
      go_wp2_with fail
      refine HM.out.mono ?_
      rintro e w1 ⟨rfl, rfl⟩
      clear HM
      go_wp2_with fail
      refine HK.out.mono ?_
      rintro e w1 ⟨rfl, rfl⟩
      clear HK
      go_wp2_with fail
      refine (P1.out _ ht).mono ?_
      rintro e w2 ⟨rfl, rfl⟩
      go_wp2_with fail
      refine (day_format day _ ht).mono ?_
      rintro e w3 ⟨he, hb⟩
      rw [EP.out] at he
      subst he
      have ht := ht.on hb ht.1
      have HB := Lib.hid hb
      clear hb
      go_wp2_with fail
      refine (day_parse (S (fL day)) (1900 + k) w3 ht HS.out).mono ?_
      rintro e w4 ⟨he, hb⟩
      have ht := ht.on hb ht.1
      have HB := Lib.hid (below_on HB.out hb)
      clear hb
      rcases HV.out with hv | ⟨hv, hv2⟩
      · rw [hv] at he
        subst he
        clear HV
        go_wp2_with fail
        refine (day_awake _ ht).mono ?_
        rintro e w6 ⟨rfl, hb⟩
        have HB := Lib.hid (below_on HB.out hb)
        clear hb
        go_wp2
        go_ret
        exact ⟨rfl, HB.out⟩
      · rw [hv] at he
        obtain ⟨x, hx⟩ : ∃ x, x = psV (S (fL day)) (1900 + k) := ⟨_, rfl⟩
        rw [← hx] at he hv2
        subst he
        have hne : (x != day) = true := by simpa using hv2
        clear HV hv hv2 hx
        go_wp2_with fail
        refine (day_awake _ ht).mono ?_
        rintro e w6 ⟨rfl, hb⟩
        have HB := Lib.hid (below_on HB.out hb)
        clear hb
        go_wp2
        go_ret
        exact ⟨rfl, HB.out⟩
  · have HV := Lib.hid (ps_out h (f := 1900 + k) (by omega) (by omega) (by omega))
    have P1 := Lib.hid (fun w ht => parts_dt h w ht)
    clear h
    go_enter Tryd.func8, Tryd.ntmps8
    go_wp2_with fail
    refine HM.out.mono ?_
    rintro e w1 ⟨rfl, rfl⟩
    clear HM
    go_wp2_with fail
    refine HK.out.mono ?_
    rintro e w1 ⟨rfl, rfl⟩
    clear HK
    go_wp2_with fail
    refine (P1.out _ ht).mono ?_
    rintro e w2 ⟨rfl, rfl⟩
    go_wp2_with fail
    refine (day_format day _ ht).mono ?_
    rintro e w3 ⟨he, hb⟩
    rw [EP.out] at he
    subst he
    have ht := ht.on hb ht.1
    have HB := Lib.hid hb
    clear hb
    go_wp2_with fail
    refine (day_parse (S (fL day)) (1900 + k) w3 ht HS.out).mono ?_
    rintro e w4 ⟨he, hb⟩
    have ht := ht.on hb ht.1
    have HB := Lib.hid (below_on HB.out hb)
    clear hb
    rcases HV.out with hv | ⟨hv, hv2⟩
    · rw [hv] at he
      subst he
      clear HV
      go_wp2_with fail
      refine (day_awake _ ht).mono ?_
      rintro e w6 ⟨rfl, hb⟩
      have HB := Lib.hid (below_on HB.out hb)
      clear hb
      go_wp2
      go_ret
      exact ⟨rfl, HB.out⟩
    · rw [hv] at he
      obtain ⟨x, hx⟩ : ∃ x, x = psV (S (fL day)) (1900 + k) := ⟨_, rfl⟩
      rw [← hx] at he hv2
      subst he
      have hne : (x != day) = true := by simpa using hv2
      clear HV hv hv2 hx
      go_wp2_with fail
      refine (day_awake _ ht).mono ?_
      rintro e w6 ⟨rfl, hb⟩
      have HB := Lib.hid (below_on HB.out hb)
      clear hb
      go_wp2
      go_ret
      exact ⟨rfl, HB.out⟩

/-! ### the given statement, out of the walk -/
set_option maxRecDepth 100000 in
theorem lifted (os : Os) (started : os.Started) (H : Type) (enc : TypeId × Value → H) :
    ReturnsInHanded {} Tryd.checked os 8 .any (fun w args => (Rows.datesWindowSpec.pre enc Tryd.prog Tryd.f8 Rows.datesWindowRow.domain false w args ∧ laidMetH Tryd.prog laidL w) ∧ sizedMet enc Tryd.prog Tryd.f8 (OpenSpec.ofChange Rows.datesWindowSpec) false w args)
      (Rows.datesWindowSpec.post enc Tryd.prog Tryd.f8 false true false false) := by
  refine returnsInHanded_of_change_and (C := Tryd.checked) (X := fun w _ => laidMetH Tryd.prog laidL w) (fun _ _ _ hh h => h.of_heap hh) own started (by kernel_rfl) Tryd.func8
    (ChangeSpec.witness_shaped (enc := enc) (C := Tryd.checked) (os := os) (X := fun w _ => laidMetH Tryd.prog laidL w) false (World.laidAll Tryd.prog os laidL) #[.int .i64 0, .int .i64 0] 8 (World.laidAll_os _ _ _)
      (World.shaped_of_ZipB (by kernel_rfl) (by kernel_rfl)) (by kernel_rfl) (by kernel_rfl) (by kernel_rfl)
      (by rw [MakeChecks.laidMetH_plain _ _ _ (by kernel_rfl)]; exact laidMet_laidAll _ (by kernel_rfl) (by kernel_rfl))) ?_
  intro W base args ds gs before hval0 hW hcnd hsz0 hL _
  clear hsz0
  have hval : ∀ (j : Nat) t v, Tryd.f8.params[j]? = some t → args[j]? = some v → Value.okWide Tryd.prog W .any base t v := hval0
  have hW' := hW
  obtain ⟨p, q, hA0, hV, rfl, hfz, hnd⟩ := hW
  have hA : DataW.TrodAll enc Tryd.prog W 0 (fun _ => true) true Tryd.f8.params.toList args.toList ds p := hA0
  rw [Tryd.params8] at hA hval
  obtain ⟨v0, vs0, d0, ds0, p0, q0, hargs, rfl, rfl, h0, r0⟩ := trodAll_cons hA
  obtain ⟨v1, vs1, d1, ds1, p1, q1, rfl, rfl, rfl, h1, r1⟩ := trodAll_cons r0
  obtain ⟨rfl, rfl, rfl⟩ := trodAll_nil r1
  obtain rfl : args = #[v0, v1] := by cases args; simp_all
  obtain ⟨rfl, rfl⟩ := trodVars_none hV
  obtain ⟨n0, rfl, rfl, rfl, w0⟩ := open_int Tryd.underlying3 (hval 0 3 v0 rfl rfl) h0
  obtain ⟨n1, rfl, rfl, rfl, w1⟩ := open_int Tryd.underlying3 (hval 1 3 v1 rfl rfl) h1
  clear hA0 hval0
  refine (walk n0 n1 W (of_laid hL) w0 w1).mono fun e W' ⟨he, bel⟩ => ?_
  subst he
  exact ⟨_, rfl, _, _, _, [], _, [], hW', trodAll_mk1 (shut_bool Tryd.underlying4 _), (trodAll_cons_mk (shut_int Tryd.underlying3 w0) (trodAll_cons_mk (shut_int Tryd.underlying3 w1) trodAll_mk0)), rfl, bel.frame _, fun h => by cases h⟩

theorem said : Rows.DatesWindowSaid :=
  OpenClaim.holds_of_wide 8 Tryd.f8 rfl rfl rfl rfl rfl rfl rfl ⟨rfl, rfl, rfl, rfl, rfl⟩ rfl rfl rfl rfl rfl (by kernel_rfl) Tryd.func8 (by kernel_rfl)
    (of_decide_eq_true (by kernel_rfl)) (by unfold Func.isWrapper; first | (rw [if_pos (by decide +kernel)]; kernel_rfl) | (rw [if_neg (by decide +kernel)]; exact ⟨rfl, rfl⟩))
    (fun os started H enc _ => lifted os started H enc)
theorem proved : Rows.DatesWindowCardSaid :=
  Claim7.holds_tied_plain_at .later [] laidKinds true Rows.datesWindowCard.stood.harness false
    said (fun _ h => by cases h) (by kernel_rfl) (fun _ h => by cases h) datesWindow_row_tie rfl ⟨rfl, rfl⟩ (by kernel_rfl) rfl
    (fun f fn hf hfn => by
      obtain rfl : f = 8 := Option.some.inj ((show Tryd.prog.funcNamed "traveldoc/traveldoclaw03.DatesWindow" = some 8 by kernel_rfl).symm.trans hf) |>.symm
      obtain rfl : fn = Tryd.f8 := (Option.some.inj (Tryd.func8.symm.trans hfn)).symm
      exact ⟨by kernel_rfl, fun j t ht => by
        rw [Tryd.params8] at ht
        have hm : t ∈ [3, 3] := by simpa using Array.mem_of_getElem? ht
        have hall : ([3, 3].all fun u => !Tryd.prog.wantsStandIn u) = true := by kernel_rfl
        exact (show Tryd.prog.wantsStandIn t = false by simpa using List.all_eq_true.1 hall t hm)⟩)
    (by kernel_rfl)
end Go.Proofs.YtgecahokkgealaaDoor.datesWindow
