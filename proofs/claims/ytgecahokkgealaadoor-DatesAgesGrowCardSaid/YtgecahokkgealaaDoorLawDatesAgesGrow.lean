/-
  What is proved here: for every two numbers, the age at a day does not fall on the next day and grows by one or two in 366 days (the statement DatesAgesGrow), where the table of the months starts as the program's text lays it; no other condition.
-/
import Derived.Test.YtgecahokkgealaaDoorDad
import Derived.Test.YtgecahokkgealaaDoorMod
import Derived.Test.YtgecahokkgealaaDoorDfm
import Derived.Test.YtgecahokkgealaaDoorLay3
namespace Go.Proofs.YtgecahokkgealaaDoor.datesAgesGrow
open Go.ChangeShapes Go.WideShapes Go.ChangeAt Go.RowKit
open Go.ChangeMaps (open_string shut_string)
set_option linter.unusedVariables false

set_option maxHeartbeats 1000000 in
theorem walk (n0 n1 : Int) (w : World) (ht : Tab w) (m0 : (Lit.int .i64 n0).wf = true) (m1 : (Lit.int .i64 n1).wf = true) :
    Calls Tryd.prog 10 #[.int .i64 n0, .int .i64 n1] w fun e w' => e = .returned (.bool true) ∧ Below w.heap.size w w' := by
  have hx : -9223372036854775808 ≤ n0 ∧ n0 ≤ 9223372036854775807 := by simpa [Lit.wf, IntKind.min, IntKind.max, IntKind.signed, IntKind.bits] using m0
  have hz : -9223372036854775808 ≤ n1 ∧ n1 ≤ 9223372036854775807 := by simpa [Lit.wf, IntKind.min, IntKind.max, IntKind.signed, IntKind.bits] using m1
  clear m0 m1
  have HM := Lib.hid (made_mod n0 72248 hx.1 hx.2 (by omega) (by omega) w)
  obtain ⟨b, hn⟩ : ∃ b, b = n0 % 72248 := ⟨_, rfl⟩
  have h1 : 0 ≤ b := by omega
  have h2 : b ≤ 72247 := by omega
  rw [← hn] at HM
  have HK := Lib.hid (made_mod n1 (73048 - b - 370) hz.1 hz.2 (by omega) (by omega) w)
  have r0 := Int.emod_nonneg n1 (show 73048 - b - 370 ≠ 0 by omega)
  have r1 := Int.emod_lt_of_pos n1 (show 0 < 73048 - b - 370 by omega)
  obtain ⟨k, hk⟩ : ∃ k, k = n1 % (73048 - b - 370) := ⟨_, rfl⟩
  rw [← hk] at HK r0 r1
  clear hn hx hz hk
  obtain ⟨yb, mb, db, hb⟩ := dt_of b h1 (by omega)
  obtain ⟨y, m, d, ho⟩ := dt_of (b + k) (by omega) (by omega)
  obtain ⟨y2, m2, d2, hp⟩ := dt_of (b + k + 1) (by omega) (by omega)
  obtain ⟨y3, m3, d3, hq⟩ := dt_of (b + k + 366) (by omega) (by omega)
  have hb' := hb
  obtain ⟨_, _, _, _, q1, q2, q3, q4, _⟩ := hb'
  have q5 := Cal.dim_bd yb mb
  have A1 := Lib.hid (fun w ht => age_dt hb ho (by omega) w ht)
  have A2 := Lib.hid (fun w ht => age_dt hb hp (by omega) w ht)
  have A3 := Lib.hid (fun w ht => age_dt hb hq (by omega) w ht)
  have p0 := age_pos hb ho (by omega)
  have p1 := age_next (yb := yb) q2 q1 (by omega) q3 ho hp
  have p2 := age_year (yb := yb) q2 q1 (by omega) q3 ho hq
  obtain ⟨a, ha⟩ : ∃ a, a = ageOf yb mb db y m d := ⟨_, rfl⟩
  obtain ⟨a2, ha2⟩ : ∃ a, a = ageOf yb mb db y2 m2 d2 := ⟨_, rfl⟩
  obtain ⟨a3, ha3⟩ : ∃ a, a = ageOf yb mb db y3 m3 d3 := ⟨_, rfl⟩
  have pb : a ≤ 1000 := by
    obtain ⟨_, _, s1, s2, _⟩ := ho
    rw [ha]; unfold ageOf; split <;> omega
  rw [← ha] at A1 p0 p1 p2
  rw [← ha2] at A2 p1
  rw [← ha3] at A3 p2
  clear ha ha2 ha3 hb ho hp hq q1 q2 q3 q4 q5
  rcases p1 with rfl | rfl <;> rcases p2 with rfl | rfl <;>
  · go_enter Tryd.func10, Tryd.ntmps10
    go_wp2_with fail
    refine HM.out.mono ?_
    rintro e w1 ⟨rfl, rfl⟩
    clear HM
    go_wp2_with fail
    refine HK.out.mono ?_
    rintro e w1 ⟨rfl, rfl⟩
    clear HK
    go_wp2_with fail
    refine (A1.out _ ht).mono ?_
    rintro e w2 ⟨rfl, rfl⟩
    go_wp2_with fail
    refine (A2.out _ ht).mono ?_
    rintro e w3 ⟨rfl, rfl⟩
    go_wp2_with fail
    refine (A3.out _ ht).mono ?_
    rintro e w4 ⟨rfl, rfl⟩
    go_wp2_with fail
    refine (day_awake _ ht).mono ?_
    rintro e w5 ⟨rfl, hb⟩
    go_wp2
    go_ret
    exact ⟨rfl, hb⟩

/-! ### the given statement, out of the walk -/
set_option maxRecDepth 100000 in
theorem lifted (os : Os) (started : os.Started) (H : Type) (enc : TypeId × Value → H) :
    ReturnsInHanded {} Tryd.checked os 10 .any (fun w args => (Rows.datesAgesGrowSpec.pre enc Tryd.prog Tryd.f10 Rows.datesAgesGrowRow.domain false w args ∧ laidMetH Tryd.prog laidL w) ∧ sizedMet enc Tryd.prog Tryd.f10 (OpenSpec.ofChange Rows.datesAgesGrowSpec) false w args)
      (Rows.datesAgesGrowSpec.post enc Tryd.prog Tryd.f10 false true false false) := by
  refine returnsInHanded_of_change_and (C := Tryd.checked) (X := fun w _ => laidMetH Tryd.prog laidL w) (fun _ _ _ hh h => h.of_heap hh) own started (by kernel_rfl) Tryd.func10
    (ChangeSpec.witness_shaped (enc := enc) (C := Tryd.checked) (os := os) (X := fun w _ => laidMetH Tryd.prog laidL w) false (World.laidAll Tryd.prog os laidL) #[.int .i64 0, .int .i64 0] 8 (World.laidAll_os _ _ _)
      (World.shaped_of_ZipB (by kernel_rfl) (by kernel_rfl)) (by kernel_rfl) (by kernel_rfl) (by kernel_rfl)
      (by rw [MakeChecks.laidMetH_plain _ _ _ (by kernel_rfl)]; exact laidMet_laidAll _ (by kernel_rfl) (by kernel_rfl))) ?_
  intro W base args ds gs before hval0 hW hcnd hsz0 hL _
  clear hsz0
  have hval : ∀ (j : Nat) t v, Tryd.f10.params[j]? = some t → args[j]? = some v → Value.okWide Tryd.prog W .any base t v := hval0
  have hW' := hW
  obtain ⟨p, q, hA0, hV, rfl, hfz, hnd⟩ := hW
  have hA : DataW.TrodAll enc Tryd.prog W 0 (fun _ => true) true Tryd.f10.params.toList args.toList ds p := hA0
  rw [Tryd.params10] at hA hval
  obtain ⟨v0, vs0, d0, ds0, p0, q0, hargs, rfl, rfl, h0, r0⟩ := trodAll_cons hA
  obtain ⟨v1, vs1, d1, ds1, p1, q1, rfl, rfl, rfl, h1, r1⟩ := trodAll_cons r0
  obtain ⟨rfl, rfl, rfl⟩ := trodAll_nil r1
  obtain rfl : args = #[v0, v1] := by cases args; simp_all
  obtain ⟨rfl, rfl⟩ := trodVars_none hV
  obtain ⟨n0, rfl, rfl, rfl, w0⟩ := open_int Tryd.underlying3 (hval 0 3 v0 rfl rfl) h0
  obtain ⟨n1, rfl, rfl, rfl, w1⟩ := open_int Tryd.underlying3 (hval 1 3 v1 rfl rfl) h1
  clear hA0 hval0
  refine (walk n0 n1 W (of_laid hL) w0 w1).mono fun e W' ⟨he, bel⟩ => ?_
  subst he
  exact ⟨_, rfl, _, _, _, [], _, [], hW', trodAll_mk1 (shut_bool Tryd.underlying4 _), (trodAll_cons_mk (shut_int Tryd.underlying3 w0) (trodAll_cons_mk (shut_int Tryd.underlying3 w1) trodAll_mk0)), rfl, bel.frame _, fun h => by cases h⟩

theorem said : Rows.DatesAgesGrowSaid :=
  OpenClaim.holds_of_wide 10 Tryd.f10 rfl rfl rfl rfl rfl rfl rfl ⟨rfl, rfl, rfl, rfl, rfl⟩ rfl rfl rfl rfl rfl (by kernel_rfl) Tryd.func10 (by kernel_rfl)
    (of_decide_eq_true (by kernel_rfl)) (by unfold Func.isWrapper; first | (rw [if_pos (by decide +kernel)]; kernel_rfl) | (rw [if_neg (by decide +kernel)]; exact ⟨rfl, rfl⟩))
    (fun os started H enc _ => lifted os started H enc)
theorem proved : Rows.DatesAgesGrowCardSaid :=
  Claim7.holds_tied_plain_at .later [] laidKinds true Rows.datesAgesGrowCard.stood.harness false
    said (fun _ h => by cases h) (by kernel_rfl) (fun _ h => by cases h) datesAgesGrow_row_tie rfl ⟨rfl, rfl⟩ (by kernel_rfl) rfl
    (fun f fn hf hfn => by
      obtain rfl : f = 10 := Option.some.inj ((show Tryd.prog.funcNamed "traveldoc/traveldoclaw03.DatesAgesGrow" = some 10 by kernel_rfl).symm.trans hf) |>.symm
      obtain rfl : fn = Tryd.f10 := (Option.some.inj (Tryd.func10.symm.trans hfn)).symm
      exact ⟨by kernel_rfl, fun j t ht => by
        rw [Tryd.params10] at ht
        have hm : t ∈ [3, 3] := by simpa using Array.mem_of_getElem? ht
        have hall : ([3, 3].all fun u => !Tryd.prog.wantsStandIn u) = true := by kernel_rfl
        exact (show Tryd.prog.wantsStandIn t = false by simpa using List.all_eq_true.1 hall t hm)⟩)
    (by kernel_rfl)
end Go.Proofs.YtgecahokkgealaaDoor.datesAgesGrow
