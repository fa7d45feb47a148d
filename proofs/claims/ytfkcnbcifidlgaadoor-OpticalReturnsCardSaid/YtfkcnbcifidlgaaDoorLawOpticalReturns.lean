/-
  What is proved here: for any made names and every width, Split reads what Names wrote: both names, if they fit; otherwise a beginning of the surname (the statement OpticalReturns), where the tables start as the program's text lays them; no other condition.
-/
import Derived.Test.YtfkcnbcifidlgaaDoorHs
import Derived.Test.YtfkcnbcifidlgaaDoorOnm
namespace Go.Proofs.YtfkcnbcifidlgaaDoor.opticalReturns
open Go.ChangeShapes Go.WideShapes Go.ChangeAt Go.RowKit
open Go.ChangeMaps (open_string shut_string)
set_option linter.unusedVariables false

theorem name_x {x : List UInt8} (h : nameL x = true) : nameL (88 :: x) = true := by
  have hc : ∀ i, cB (88 :: x) i = if i = 0 then 88 else cB x (i - 1) := fun i => by
    cases i with
    | zero => rfl
    | succ i => rw [if_neg (by omega)]; rfl
  refine nameL_good fun k hk => ?_
  simp only [List.length_cons] at hk
  rcases Nat.eq_zero_or_pos k with e | e
  · subst e; exact okP_let (by rw [hc]; rfl)
  · rcases name_chars h (show k - 1 < x.length by omega) with h1 | h1
    · exact okP_let (by rw [hc, if_neg (by omega)]; exact h1)
    · unfold okP gapL
      rw [Bool.or_eq_true]
      refine .inr (decide_eq_true ⟨by rw [hc, if_neg (by omega)]; exact h1.1, e, by simp only [List.length_cons]; omega, ?_, ?_⟩)
      · rw [hc, if_neg (by omega)]; exact h1.2.2.2.1
      · rw [hc, if_neg (by omega), show k + 1 - 1 = k - 1 + 1 by omega]; exact h1.2.2.2.2

set_option maxRecDepth 40000 in
set_option maxHeartbeats 4000000 in
theorem walk (A0 : Option Addr) (c : Nat) (x : List Int) (p : Int) (w : World) (ht : TabW w) (hx : ∃ m, w.cell? ⟨5, 0, none⟩ = some (.int .i64 m)) (see : SeesP w (· < w.heap.size) A0 (x.map (Value.int .i64))) (m : x.length ≤ 140737488351232) (rng : ∀ y ∈ x, -9223372036854775808 ≤ y ∧ y ≤ 9223372036854775807) (wp : (Lit.int .i64 p).wf = true) :
    Calls Tryd.prog 7 #[.slice A0 x.length c, .int .i64 p] w fun e w' => e = .returned (.bool true) ∧ Below w.heap.size w w' := by
  obtain ⟨mx, hmx⟩ := hx
  obtain ⟨p0, p1⟩ : IntKind.i64.min ≤ p ∧ p ≤ IntKind.i64.max := by simpa [Lit.wf] using wp
  rw [show IntKind.i64.min = -9223372036854775808 from rfl] at p0
  rw [show IntKind.i64.max = 9223372036854775807 from rfl] at p1
  have HT := Lib.hid ht
  have HMX := Lib.hid hmx
  have HL := Lib.hid (made_light A0 x.length c w m)
  by_cases hx : x.length ≤ 400
  · have d : decide (x.length ≤ 400) = true := decide_eq_true hx
    have HR := Lib.hid (made_roll A0 c x w m rng see)
    rw [d] at HL
    clear ht hmx see m rng wp d hx
    go_enter Tryd.func7, Tryd.ntmps7
    go_wp2_with (first
      | (go_at_call 24; refine HL.out.mono ?_; rintro e w' ⟨rfl, hw⟩; rw [hw]; clear hw)
      | (go_at_call 25; refine HR.out.mono ?_; rintro e w1 ⟨rfl, hd1, hb1⟩))
    refine (dice_name w.heap.size 1 w1 (by decide) hd1).mono ?_
    rintro e w2 ⟨x1, rfl, n1, l1, hg2, hd2⟩
    obtain ⟨B1, hB1⟩ : ∃ b, S x1 = b := ⟨_, rfl⟩
    have s1 : B1.size ≤ 11 := by rw [← hB1, S_size]; exact l1
    have hA : ⟨#[88]⟩ ++ B1 = S (88 :: x1) := by rw [← hB1]; exact S_append [88] x1
    have HA := Lib.hid hA
    have HB2 := Lib.hid (below_row hb1 hg2)
    have HD2 := Lib.hid hd2
    rw [hB1]
    clear hB1 hA hb1 hg2 hd1 hd2 HL HR
    go_wp2_with fail
    refine (dice_name w.heap.size 4 w2 (by decide) HD2.out).mono ?_
    rintro e w3 ⟨x2, rfl, n2, l2, hg3, hd3⟩
    obtain ⟨A, hA⟩ : ∃ b, ⟨#[88]⟩ ++ B1 = b := ⟨_, rfl⟩
    obtain ⟨B, hB⟩ : ∃ b, S x2 = b := ⟨_, rfl⟩
    have hA2 : A = S (88 :: x1) := by rw [← hA]; exact HA.out
    have sA : A.size = x1.length + 1 := by rw [hA2, S_size]; rfl
    have sB : B.size = x2.length := by rw [← hB, S_size]
    have a12 : A.size ≤ 12 := by omega
    have b44 : B.size ≤ 44 := by omega
    have HAS := Lib.hid hA2
    have HBS := Lib.hid hB
    have HB3 := Lib.hid (below_row HB2.out hg3)
    rw [hA, hB]
    clear hA hB hA2 hg3 hd3 HA HB2 HD2
    obtain ⟨q, hq⟩ : ∃ q : Nat, p % 64 = q := ⟨(p % 64).toNat, by omega⟩
    have HQ := Lib.hid hq
    have hq64 : q < 64 := by omega
    clear hq
    have na := name_x n1
    have ne3 := namesE_3 (x := 88 :: x1) (y := x2) (w := 1 + (q : Int)) (by rw [na, n2]; simp) (by omega)
    rw [show (1 + (q : Int)).toNat = q + 1 by omega] at ne3
    obtain ⟨b1, b2, b3, b4⟩ := field_back na n2 (by simp) (show 1 ≤ q + 1 by omega) (show q + 1 ≤ 64 by omega)
    have hpn := fun w => p_names A B (88 :: x1) x2 HAS.out HBS.out.symm (1 + (q : Int)) w (by omega) (by omega)
    rw [ne3.1, ne3.2] at hpn
    obtain ⟨FL, hFL⟩ : ∃ l, fieldL (88 :: x1) x2 (q + 1) = l := ⟨_, rfl⟩
    rw [hFL] at hpn b1 b2 b3 b4
    obtain ⟨FS, hFS⟩ : ∃ b, S FL = b := ⟨_, rfl⟩
    have sF : FS.size = q + 1 := by rw [← hFS, S_size]; exact b2
    rw [hFS] at hpn
    have hps := fun w hm => p_split FS FL hFS.symm w (by omega) mx hm
    rw [b1] at hps
    have hjl := joinN_len (88 :: x1) x2
    simp only [List.length_cons] at hjl
    have dF : ((FS.size : Int) != 1 + (q : Int)) = false := by rw [bne_eq_false_iff_eq]; omega
    have HPN := Lib.hid hpn
    have HPS := Lib.hid hps
    have HM := Lib.hid (fun u => made_mod p 64 p0 p1 (by decide) (by decide) u)
    clear hpn hps ne3 na
    by_cases hw : (joinN (88 :: x1) x2).length ≤ q + 1
    · obtain ⟨c1, c2, c3⟩ := b3 hw
      have HC := Lib.hid (show S (spA FL) = A ∧ S (spB FL) = B ∧ spF FL = decide ((joinN (88 :: x1) x2).length = q + 1) from ⟨by rw [c1, HAS.out], by rw [c2, HBS.out], c3⟩)
      clear b3 b4 c1 c2 c3
      by_cases h0 : x2 = []
      · have hem := s_nil HBS.out.symm h0
        rw [if_pos h0] at hjl
        obtain ⟨b, hb⟩ : ∃ b, decide ((joinN (88 :: x1) x2).length = q + 1) = b := ⟨_, rfl⟩
        have hbe : ((A.size : Int) == 1 + (q : Int)) = b := by
          rw [← hb, hjl, sA]
          by_cases e : x1.length + 1 + 0 = q + 1
          · rw [decide_eq_true e, beq_iff_eq]; omega
          · rw [decide_eq_false e, beq_eq_false_iff_ne]; omega
        have hle : (A.size : Int) ≤ 1 + (q : Int) := by omega
        have HBB := Lib.hid hb
        clear hb
        clear hFL hFS b1 b2 hjl HAS HBS n1 n2 l1 l2 hw h0 sA sB
        go_wp2_with (first
          | (go_at_call 27; refine (HM.out _).mono ?_; rintro e w' ⟨rfl, hw⟩; rw [hw, HQ.out]; clear hw)
          | (go_at_call 19; refine (HPN.out _).mono ?_; rintro e w4 ⟨rfl, hb4⟩)
          | (go_at_call 11; refine (awake _ (HT.out.below (below_on HB3.out hb4))).mono ?_; rintro e w5 ⟨rfl, hb5⟩)
          | (go_at_call 22; refine (HPS.out _ (cell_below HMX.out (below_on (below_on HB3.out hb4) hb5))).mono ?_; rintro e w6 ⟨rfl, hb6⟩; rw [HC.out.1, HC.out.2.1, HC.out.2.2, HBB.out]))
        go_ret
        exact ⟨by simp, below_on (below_on (below_on HB3.out hb4) hb5) hb6⟩
      · have hem := s_ne HBS.out.symm h0
        rw [if_neg h0] at hjl
        obtain ⟨b, hb⟩ : ∃ b, decide ((joinN (88 :: x1) x2).length = q + 1) = b := ⟨_, rfl⟩
        have hbe : ((A.size : Int) + (2 + (B.size : Int)) == 1 + (q : Int)) = b := by
          rw [← hb, hjl, sA, sB]
          by_cases e : x1.length + 1 + (2 + x2.length) = q + 1
          · rw [decide_eq_true e, beq_iff_eq]; omega
          · rw [decide_eq_false e, beq_eq_false_iff_ne]; omega
        have hle : (A.size : Int) + (2 + (B.size : Int)) ≤ 1 + (q : Int) := by omega
        have HBB := Lib.hid hb
        clear hb
        clear hFL hFS b1 b2 hjl HAS HBS n1 n2 l1 l2 hw h0 sA sB
        go_wp2_with (first
          | (go_at_call 27; refine (HM.out _).mono ?_; rintro e w' ⟨rfl, hw⟩; rw [hw, HQ.out]; clear hw)
          | (go_at_call 19; refine (HPN.out _).mono ?_; rintro e w4 ⟨rfl, hb4⟩)
          | (go_at_call 11; refine (awake _ (HT.out.below (below_on HB3.out hb4))).mono ?_; rintro e w5 ⟨rfl, hb5⟩)
          | (go_at_call 22; refine (HPS.out _ (cell_below HMX.out (below_on (below_on HB3.out hb4) hb5))).mono ?_; rintro e w6 ⟨rfl, hb6⟩; rw [HC.out.1, HC.out.2.1, HC.out.2.2, HBB.out]))
        go_ret
        exact ⟨by simp, below_on (below_on (below_on HB3.out hb4) hb5) hb6⟩
    · obtain ⟨c1, c2⟩ := b4 (by omega)
      obtain ⟨SA, hSA⟩ : ∃ b, S (spA FL) = b := ⟨_, rfl⟩
      have sSA : SA.size ≤ A.size := by rw [← hSA, S_size, sA]; exact c1
      have hpre : A.extract 0 SA.size = SA := by
        rw [← hSA, HAS.out, S_extract, S_size]
        simp only [Nat.sub_zero, List.drop_zero]
        rw [c2]
      have hqs : q < FS.size := by omega
      have hcq := s_at hFS.symm q hqs
      obtain ⟨b, hb⟩ : ∃ b, spF FL = b := ⟨_, rfl⟩
      have hbe : ((FS[q].toNat : Int) != 60) = b := by
        rw [← hb, (sp_yes b1).2.2, hcq, b2, show q + 1 - 1 = q by omega]
        by_cases e : cB FL q = 60
        · rw [e]; rfl
        · rw [decide_eq_true e]; simpa using e
      have HSA := Lib.hid hSA
      have HBB := Lib.hid hb
      clear b3 b4 c1 c2 hSA hb hcq
      by_cases h0 : x2 = []
      · have hem := s_nil HBS.out.symm h0
        rw [if_pos h0] at hjl
        have hle : ¬ ((A.size : Int) ≤ 1 + (q : Int)) := by omega
        clear hFL hFS b1 b2 hjl HAS HBS n1 n2 l1 l2 hw h0 sA sB
        go_wp2_with (first
          | (go_at_call 27; refine (HM.out _).mono ?_; rintro e w' ⟨rfl, hw⟩; rw [hw, HQ.out]; clear hw)
          | (go_at_call 19; refine (HPN.out _).mono ?_; rintro e w4 ⟨rfl, hb4⟩)
          | (go_at_call 11; refine (awake _ (HT.out.below (below_on HB3.out hb4))).mono ?_; rintro e w5 ⟨rfl, hb5⟩)
          | (go_at_call 22; refine (HPS.out _ (cell_below HMX.out (below_on (below_on HB3.out hb4) hb5))).mono ?_; rintro e w6 ⟨rfl, hb6⟩; rw [HSA.out, HBB.out]))
        go_ret
        exact ⟨by simp, below_on (below_on (below_on HB3.out hb4) hb5) hb6⟩
      · have hem := s_ne HBS.out.symm h0
        rw [if_neg h0] at hjl
        have hle : ¬ ((A.size : Int) + (2 + (B.size : Int)) ≤ 1 + (q : Int)) := by omega
        clear hFL hFS b1 b2 hjl HAS HBS n1 n2 l1 l2 hw h0 sA sB
        go_wp2_with (first
          | (go_at_call 27; refine (HM.out _).mono ?_; rintro e w' ⟨rfl, hw⟩; rw [hw, HQ.out]; clear hw)
          | (go_at_call 19; refine (HPN.out _).mono ?_; rintro e w4 ⟨rfl, hb4⟩)
          | (go_at_call 11; refine (awake _ (HT.out.below (below_on HB3.out hb4))).mono ?_; rintro e w5 ⟨rfl, hb5⟩)
          | (go_at_call 22; refine (HPS.out _ (cell_below HMX.out (below_on (below_on HB3.out hb4) hb5))).mono ?_; rintro e w6 ⟨rfl, hb6⟩; rw [HSA.out, HBB.out]))
        go_ret
        exact ⟨by simp, below_on (below_on (below_on HB3.out hb4) hb5) hb6⟩
  · have d : decide (x.length ≤ 400) = false := decide_eq_false hx
    rw [d] at HL
    clear ht hmx see m rng wp d hx
    go_enter Tryd.func7, Tryd.ntmps7
    go_wp2_with (first
      | (go_at_call 24; refine HL.out.mono ?_; rintro e w' ⟨rfl, hw⟩; rw [hw]; clear hw)
      | (go_at_call 11; refine (awake _ HT.out).mono ?_; rintro e w2 ⟨rfl, hb⟩))
    go_ret
    exact ⟨rfl, hb⟩

/-! ### the given statement, out of the walk -/
set_option maxRecDepth 100000 in
theorem lifted (os : Os) (started : os.Started) (H : Type) (enc : TypeId × Value → H) :
    ReturnsInHanded {} Tryd.checked os 7 .any (fun w args => (Rows.opticalReturnsSpec.pre enc Tryd.prog Tryd.f7 Rows.opticalReturnsRow.domain false w args ∧ laidMetH Tryd.prog laidL6 w) ∧ sizedMet enc Tryd.prog Tryd.f7 (OpenSpec.ofChange Rows.opticalReturnsSpec) false w args)
      (Rows.opticalReturnsSpec.post enc Tryd.prog Tryd.f7 false true false false) := by
  refine handed_shaped (C := Tryd.checked) (X := fun w _ => laidMetH Tryd.prog laidL6 w) (fun _ _ _ hh h => h.of_heap hh) own started (by kernel_rfl) Tryd.func7
    (ChangeSpec.witness_shaped (enc := enc) (C := Tryd.checked) (os := os) (X := fun w _ => laidMetH Tryd.prog laidL6 w) false (World.laidAll Tryd.prog os laidL6) #[.slice none 0 0, .int .i64 0] 8 (World.laidAll_os _ _ _)
      (World.shaped_of_ZipB (by kernel_rfl) (by kernel_rfl)) (by kernel_rfl) (by kernel_rfl) (by kernel_rfl)
      (by rw [MakeChecks.laidMetH_plain _ _ _ (by kernel_rfl)]; exact laidMet_laidAll _ (by kernel_rfl) (by kernel_rfl))) ?_
  intro W base args ds gs before hSh hval0 hW hsz0 hL
  have hsz : (DataW.weightsEach Tryd.prog (Tryd.f7.params.toList ++ Rows.opticalReturnsSpec.plain.varTypes Tryd.prog) (ds ++ gs)).all (· ≤ reachBytes) = true := hsz0
  have hval : ∀ (j : Nat) t v, Tryd.f7.params[j]? = some t → args[j]? = some v → Value.okWide Tryd.prog W .any base t v := hval0
  have hW' := hW
  obtain ⟨p, q, hA0, hV, rfl, hfz, hnd⟩ := hW
  have hA : DataW.TrodAll enc Tryd.prog W 0 (fun _ => true) true Tryd.f7.params.toList args.toList ds p := hA0
  rw [Tryd.params7] at hA hval hsz
  obtain ⟨v0, vs0, d0, ds0, p0, q0, hargs, rfl, rfl, h0, r0⟩ := trodAll_cons hA
  obtain ⟨v1, vs1, d1, ds1, p1, q1, rfl, rfl, rfl, h1, r1⟩ := trodAll_cons r0
  obtain ⟨rfl, rfl, rfl⟩ := trodAll_nil r1
  obtain rfl : args = #[v0, v1] := by cases args; simp_all
  obtain ⟨rfl, rfl⟩ := trodVars_none hV
  obtain ⟨a0, len0, cap0, rfl⟩ := okWide_slice Tryd.underlying33 (hval 0 33 v0 rfl rfl)
  have lt0 : ∀ x ∈ p0, x.block < W.heap.size := by obtain ⟨m, hm⟩ := h0; exact DataW.trod_lt m _ _ _ hm
  obtain ⟨x0, rfl, see0, rng0, hl0, hc0⟩ := open_i64s h0 lt0
  have m0 := reach_i64s hsz (j := 0) rfl rfl hl0 hc0
  obtain ⟨n1, rfl, rfl, rfl, w1⟩ := open_int Tryd.underlying3 (hval 1 3 v1 rfl rfl) h1
  clear hA0 hval0
  refine (walk a0 cap0 x0 n1 W (of_laid6 hL) (max_cell hSh) see0 m0 rng0 w1).mono fun e W' ⟨he, bel⟩ => ?_
  subst he
  exact ⟨_, rfl, _, _, _, [], _, [], hW', trodAll_mk1 (shut_bool Tryd.underlying4 _), (trodAll_cons_mk (Below.trod laidOut (by kernel_rfl) (of_decide_eq_true (by kernel_rfl)) h0 bel lt0) (trodAll_cons_mk (shut_int Tryd.underlying3 w1) trodAll_mk0)), rfl, bel.frame _, fun h => by cases h⟩

theorem said : Rows.OpticalReturnsSaid :=
  OpenClaim.holds_of_wide 7 Tryd.f7 rfl rfl rfl rfl rfl rfl rfl ⟨rfl, rfl, rfl, rfl, rfl⟩ rfl rfl rfl rfl rfl (by kernel_rfl) Tryd.func7 (by kernel_rfl)
    (of_decide_eq_true (by kernel_rfl)) (by unfold Func.isWrapper; first | (rw [if_pos (by decide +kernel)]; kernel_rfl) | (rw [if_neg (by decide +kernel)]; exact ⟨rfl, rfl⟩))
    (fun os started H enc _ => lifted os started H enc)
theorem proved : Rows.OpticalReturnsCardSaid :=
  Claim7.holds_tied_plain_at .later [] laidKinds6 true Rows.opticalReturnsCard.stood.harness false
    said (fun _ h => by cases h) (by kernel_rfl) (fun _ h => by cases h) opticalReturns_row_tie rfl ⟨rfl, rfl⟩ (by kernel_rfl) rfl
    (fun f fn hf hfn => by
      obtain rfl : f = 7 := Option.some.inj ((show Tryd.prog.funcNamed "traveldoc/traveldoclaw10.OpticalReturns" = some 7 by kernel_rfl).symm.trans hf) |>.symm
      obtain rfl : fn = Tryd.f7 := (Option.some.inj (Tryd.func7.symm.trans hfn)).symm
      exact ⟨by kernel_rfl, fun j t ht => by
        rw [Tryd.params7] at ht
        have hm : t ∈ [33, 3] := by simpa using Array.mem_of_getElem? ht
        have hall : ([33, 3].all fun u => !Tryd.prog.wantsStandIn u) = true := by kernel_rfl
        exact (show Tryd.prog.wantsStandIn t = false by simpa using List.all_eq_true.1 hall t hm)⟩)
    (by kernel_rfl)
end Go.Proofs.YtfkcnbcifidlgaaDoor.opticalReturns
