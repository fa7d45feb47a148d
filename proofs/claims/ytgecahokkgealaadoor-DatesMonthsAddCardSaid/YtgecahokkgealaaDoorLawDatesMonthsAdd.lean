/-
  What is proved here: for every two numbers, months later and as many earlier lead back to the same month, and to the same day of a month up to the 28th, and a month has 28 to 31 days (the statement DatesMonthsAdd), where the table of the months starts as the program's text lays it; no other condition.
-/
import Derived.Test.YtgecahokkgealaaDoorDmd
import Derived.Test.YtgecahokkgealaaDoorMod
import Derived.Test.YtgecahokkgealaaDoorDfm
import Derived.Test.YtgecahokkgealaaDoorLay3
namespace Go.Proofs.YtgecahokkgealaaDoor.datesMonthsAdd
open Go.ChangeShapes Go.WideShapes Go.ChangeAt Go.RowKit
open Go.ChangeMaps (open_string shut_string)
set_option linter.unusedVariables false

set_option maxHeartbeats 1000000 in
theorem walk (n0 n1 : Int) (w : World) (ht : Tab w) (m0 : (Lit.int .i64 n0).wf = true) (m1 : (Lit.int .i64 n1).wf = true) :
    Calls Tryd.prog 9 #[.int .i64 n0, .int .i64 n1] w fun e w' => e = .returned (.bool true) ∧ Below w.heap.size w w' := by
  have hx : -9223372036854775808 ≤ n0 ∧ n0 ≤ 9223372036854775807 := by simpa [Lit.wf, IntKind.min, IntKind.max, IntKind.signed, IntKind.bits] using m0
  have hz : -9223372036854775808 ≤ n1 ∧ n1 ≤ 9223372036854775807 := by simpa [Lit.wf, IntKind.min, IntKind.max, IntKind.signed, IntKind.bits] using m1
  clear m0 m1
  have HM := Lib.hid (made_mod n0 73049 hx.1 hx.2 (by omega) (by omega) w)
  have HK := Lib.hid (made_mod n1 200 hz.1 hz.2 (by omega) (by omega) w)
  obtain ⟨day, hn⟩ : ∃ b, b = n0 % 73049 := ⟨_, rfl⟩
  obtain ⟨k, hk⟩ : ∃ b, b = n1 % 200 := ⟨_, rfl⟩
  have h1 : 0 ≤ day := by omega
  have h2 : day ≤ 73048 := by omega
  have k1 : 0 ≤ k := by omega
  have k2 : k ≤ 199 := by omega
  rw [← hn] at HM
  rw [← hk] at HK
  clear hn hx hz hk
  obtain ⟨y, m, d, h⟩ := dt_of day h1 h2
  by_cases hc : (y - 1900) * 12 + m - 1 + k ≤ 2399
  · obtain ⟨x, z, zd, cx, cz, hz, z1, z2, s1, s2, x1, x2⟩ := add_back h rfl k1 k2 hc
    have CX := Lib.hid cx
    have CZ := Lib.hid cz
    have P1 := Lib.hid (fun w ht => parts_dt h w ht)
    have P2 := Lib.hid (fun w ht => parts_dt hz w ht)
    have h' := h
    have hz' := hz
    obtain ⟨_, _, y1, y2, m1, m2, d1, d2, _⟩ := h'
    obtain ⟨_, _, _, _, _, _, d3, _, _⟩ := hz'
    have db := Cal.dim_bd y m
    have d4 : d ≤ 31 := by omega
    clear d2 db hz h hc cx cz
    by_cases g : d ≤ 28
    · obtain rfl : zd = d := z2 g
      have g1 : (zd != zd) = false := by simp
      have g2 : decide (zd ≤ 28) = true := by simpa using g
      clear z2
      go_enter Tryd.func9, Tryd.ntmps9
      go_wp2_with fail
      refine HM.out.mono ?_
      rintro e w1 ⟨rfl, rfl⟩
      clear HM
      go_wp2_with fail
      refine HK.out.mono ?_
      rintro e w1 ⟨rfl, rfl⟩
      clear HK
      go_wp2_with fail
      refine (CX.out _ ht).mono ?_
      rintro e w2 ⟨rfl, rfl⟩
      go_wp2_with fail
      refine (CZ.out _ ht).mono ?_
      rintro e w3 ⟨rfl, rfl⟩
      go_wp2_with fail
      refine (P1.out _ ht).mono ?_
      rintro e w4 ⟨rfl, rfl⟩
      go_wp2_with fail
      refine (P2.out _ ht).mono ?_
      rintro e w5 ⟨rfl, rfl⟩
      go_wp2_with fail
      refine (day_awake _ ht).mono ?_
      rintro e w6 ⟨rfl, hb⟩
      go_wp2
      go_ret
      exact ⟨rfl, hb⟩
    · have g2 : decide (d ≤ 28) = false := by simpa using g
      clear z2
      go_enter Tryd.func9, Tryd.ntmps9
      go_wp2_with fail
      refine HM.out.mono ?_
      rintro e w1 ⟨rfl, rfl⟩
      clear HM
      go_wp2_with fail
      refine HK.out.mono ?_
      rintro e w1 ⟨rfl, rfl⟩
      clear HK
      go_wp2_with fail
      refine (CX.out _ ht).mono ?_
      rintro e w2 ⟨rfl, rfl⟩
      go_wp2_with fail
      refine (CZ.out _ ht).mono ?_
      rintro e w3 ⟨rfl, rfl⟩
      go_wp2_with fail
      refine (P1.out _ ht).mono ?_
      rintro e w4 ⟨rfl, rfl⟩
      go_wp2_with fail
      refine (P2.out _ ht).mono ?_
      rintro e w5 ⟨rfl, rfl⟩
      go_wp2_with fail
      refine (day_awake _ ht).mono ?_
      rintro e w6 ⟨rfl, hb⟩
      go_wp2
      go_ret
      exact ⟨rfl, hb⟩
  · have CF := Lib.hid (fun w ht => months_far h rfl (n := k) (by omega) (by omega) (by omega) w ht)
    clear hc h
    go_enter Tryd.func9, Tryd.ntmps9
    go_wp2_with fail
    refine HM.out.mono ?_
    rintro e w1 ⟨rfl, rfl⟩
    clear HM
    go_wp2_with fail
    refine HK.out.mono ?_
    rintro e w1 ⟨rfl, rfl⟩
    clear HK
    go_wp2_with fail
    refine (CF.out _ ht).mono ?_
    rintro e w2 ⟨rfl, rfl⟩
    go_wp2_with fail
    refine (day_awake _ ht).mono ?_
    rintro e w6 ⟨rfl, hb⟩
    go_wp2
    go_ret
    exact ⟨rfl, hb⟩

/-! ### the given statement, out of the walk -/
set_option maxRecDepth 100000 in
theorem lifted (os : Os) (started : os.Started) (H : Type) (enc : TypeId × Value → H) :
    ReturnsInHanded {} Tryd.checked os 9 .any (fun w args => (Rows.datesMonthsAddSpec.pre enc Tryd.prog Tryd.f9 Rows.datesMonthsAddRow.domain false w args ∧ laidMetH Tryd.prog laidL w) ∧ sizedMet enc Tryd.prog Tryd.f9 (OpenSpec.ofChange Rows.datesMonthsAddSpec) false w args)
      (Rows.datesMonthsAddSpec.post enc Tryd.prog Tryd.f9 false true false false) := by
  refine returnsInHanded_of_change_and (C := Tryd.checked) (X := fun w _ => laidMetH Tryd.prog laidL w) (fun _ _ _ hh h => h.of_heap hh) own started (by kernel_rfl) Tryd.func9
    (ChangeSpec.witness_shaped (enc := enc) (C := Tryd.checked) (os := os) (X := fun w _ => laidMetH Tryd.prog laidL w) false (World.laidAll Tryd.prog os laidL) #[.int .i64 0, .int .i64 0] 8 (World.laidAll_os _ _ _)
      (World.shaped_of_ZipB (by kernel_rfl) (by kernel_rfl)) (by kernel_rfl) (by kernel_rfl) (by kernel_rfl)
      (by rw [MakeChecks.laidMetH_plain _ _ _ (by kernel_rfl)]; exact laidMet_laidAll _ (by kernel_rfl) (by kernel_rfl))) ?_
  intro W base args ds gs before hval0 hW hcnd hsz0 hL _
  clear hsz0
  have hval : ∀ (j : Nat) t v, Tryd.f9.params[j]? = some t → args[j]? = some v → Value.okWide Tryd.prog W .any base t v := hval0
  have hW' := hW
  obtain ⟨p, q, hA0, hV, rfl, hfz, hnd⟩ := hW
  have hA : DataW.TrodAll enc Tryd.prog W 0 (fun _ => true) true Tryd.f9.params.toList args.toList ds p := hA0
  rw [Tryd.params9] at hA hval
  obtain ⟨v0, vs0, d0, ds0, p0, q0, hargs, rfl, rfl, h0, r0⟩ := trodAll_cons hA
  obtain ⟨v1, vs1, d1, ds1, p1, q1, rfl, rfl, rfl, h1, r1⟩ := trodAll_cons r0
  obtain ⟨rfl, rfl, rfl⟩ := trodAll_nil r1
  obtain rfl : args = #[v0, v1] := by cases args; simp_all
  obtain ⟨rfl, rfl⟩ := trodVars_none hV
  obtain ⟨n0, rfl, rfl, rfl, w0⟩ := open_int Tryd.underlying3 (hval 0 3 v0 rfl rfl) h0
  obtain ⟨n1, rfl, rfl, rfl, w1⟩ := open_int Tryd.underlying3 (hval 1 3 v1 rfl rfl) h1
  clear hA0 hval0
  refine (walk n0 n1 W (of_laid hL) w0 w1).mono fun e W' ⟨he, bel⟩ => ?_
  subst he
  exact ⟨_, rfl, _, _, _, [], _, [], hW', trodAll_mk1 (shut_bool Tryd.underlying4 _), (trodAll_cons_mk (shut_int Tryd.underlying3 w0) (trodAll_cons_mk (shut_int Tryd.underlying3 w1) trodAll_mk0)), rfl, bel.frame _, fun h => by cases h⟩

theorem said : Rows.DatesMonthsAddSaid :=
  OpenClaim.holds_of_wide 9 Tryd.f9 rfl rfl rfl rfl rfl rfl rfl ⟨rfl, rfl, rfl, rfl, rfl⟩ rfl rfl rfl rfl rfl (by kernel_rfl) Tryd.func9 (by kernel_rfl)
    (of_decide_eq_true (by kernel_rfl)) (by unfold Func.isWrapper; first | (rw [if_pos (by decide +kernel)]; kernel_rfl) | (rw [if_neg (by decide +kernel)]; exact ⟨rfl, rfl⟩))
    (fun os started H enc _ => lifted os started H enc)
theorem proved : Rows.DatesMonthsAddCardSaid :=
  Claim7.holds_tied_plain_at .later [] laidKinds true Rows.datesMonthsAddCard.stood.harness false
    said (fun _ h => by cases h) (by kernel_rfl) (fun _ h => by cases h) datesMonthsAdd_row_tie rfl ⟨rfl, rfl⟩ (by kernel_rfl) rfl
    (fun f fn hf hfn => by
      obtain rfl : f = 9 := Option.some.inj ((show Tryd.prog.funcNamed "traveldoc/traveldoclaw03.DatesMonthsAdd" = some 9 by kernel_rfl).symm.trans hf) |>.symm
      obtain rfl : fn = Tryd.f9 := (Option.some.inj (Tryd.func9.symm.trans hfn)).symm
      exact ⟨by kernel_rfl, fun j t ht => by
        rw [Tryd.params9] at ht
        have hm : t ∈ [3, 3] := by simpa using Array.mem_of_getElem? ht
        have hall : ([3, 3].all fun u => !Tryd.prog.wantsStandIn u) = true := by kernel_rfl
        exact (show Tryd.prog.wantsStandIn t = false by simpa using List.all_eq_true.1 hall t hm)⟩)
    (by kernel_rfl)
end Go.Proofs.YtgecahokkgealaaDoor.datesMonthsAdd
