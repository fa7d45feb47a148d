/-
  What is proved here: for every state and block, the program's Compress returns what the reference's returns (the statement DigestCompresses), where the tables start as the program's text lays them; no other condition.
-/
import Derived.Test.YtlcenfjpfnldlaaDoorOp4
import Derived.Test.YtlcenfjpfnldlaaDoorSmr
namespace Go.Proofs.YtlcenfjpfnldlaaDoor.digestCompresses
open Go.ChangeShapes Go.WideShapes Go.ChangeAt Go.RowKit
open Go.ChangeMaps (open_string shut_string)
set_option linter.unusedVariables false

abbrev laidL := laidL3
abbrev laidKinds := laidKinds3
theorem of_laid {W : World} (h : laidMetH Tryd.prog laidL W) : TabA W ∧ TabR W := of_laid3 h
/-- what both answer -/
theorem both (A1 A2 : Option Addr) (c1 c2 : Nat) (st : List UInt32) (b : List UInt8) (w : World) (ht : TabA w ∧ TabR w) (hs1 : Sees w w.heap.size A1 (Ws st)) (hs2 : Sees w w.heap.size A2 (Us b)) (m1 : st.length ≤ 140737488351232) (m2 : b.length ≤ 140737488351232) :
    ∃ (L : List UInt32) (er : Int), L.length ≤ 8 ∧ Calls Tryd.prog 12 #[.slice A1 st.length c1, .slice A2 b.length c2] w (GivesW w L er) ∧
      ∀ w1, Below w.heap.size w w1 → Calls Tryd.prog 13 #[.slice A1 st.length c1, .slice A2 b.length c2] w1 (GivesW w1 L er) := by
  by_cases h : st.length = 8 ∧ b.length = 64
  · obtain ⟨h1, h2⟩ := h
    refine ⟨comp st b, 0, by rw [comp_length]; exact Nat.le_refl _, ?_, fun w1 hb => ?_⟩
    · rw [h1, h2]
      exact compress_good st b A1 A2 c1 c2 w h1 h2 (SeesP.iff_sees.2 hs1) (SeesP.iff_sees.2 hs2) ht.1.1
    · rw [h1, h2]
      exact ref_comp st b A1 A2 c1 c2 w1 h1 h2 (SeesP.iff_sees.2 (hs1.on hb)) (SeesP.iff_sees.2 (hs2.on hb)) (ht.2.below hb)
  · have h' : st.length ≠ 8 ∨ b.length ≠ 64 := by omega
    exact ⟨[], 2, by simp, compress_bad A1 A2 _ _ c1 c2 w h' m1 m2, fun w1 _ => ref_comp_bad A1 A2 _ _ c1 c2 w1 h' m1 m2⟩

theorem walk (A1 : Option Addr) (c1 : Nat) (st : List UInt32) (A2 : Option Addr) (c2 : Nat) (b : List UInt8) (w : World) (ht : TabA w ∧ TabR w) (hs1 : Sees w w.heap.size A1 (Ws st)) (m1 : st.length ≤ 35184372087808) (_ : A1 = none → c1 = 0) (hs2 : Sees w w.heap.size A2 (Us b)) (m2 : b.length ≤ 140737488351232) (_ : A2 = none → c2 = 0) :
    Calls Tryd.prog 4 #[.slice A1 st.length c1, .slice A2 b.length c2] w fun e w' => e = .returned (.bool true) ∧ Below w.heap.size w w' := by
  obtain ⟨L, er, hL, hp, hq⟩ := both A1 A2 c1 c2 st b w ht hs1 hs2 (by omega) m2
  have HP := Lib.hid hp
  have HQ := Lib.hid hq
  have HT := Lib.hid ht
  clear hp hq ht hs1 hs2
  have de : (er == er) = true := by simp
  go_enter Tryd.func4, Tryd.ntmps4
  go_wp2_with fail
  refine HP.out.mono ?_
  rintro e w1 ⟨A3, c3, rfl, k1, k2, k3, hb1⟩
  have S1 := Lib.hid (show _ ∧ _ from ⟨k3.imp (fun q hq => hq.2), hb1⟩)
  clear k1 k2 k3 hb1 HP
  go_wp2_with fail
  refine (HQ.out w1 S1.out.2).mono ?_
  rintro e w2 ⟨A4, c4, rfl, k1, k2, k3, hb2⟩
  have S2 := Lib.hid (show SeesP w2 (· < w2.heap.size) A3 (Ws L) ∧ SeesP w2 (· < w2.heap.size) A4 (Ws L) ∧ Below w.heap.size w w2 from
    ⟨SeesP.iff_sees.2 ((SeesP.iff_sees.1 S1.out.1).on hb2), k3.imp (fun q hq => hq.2), below_on S1.out.2 hb2⟩)
  clear k1 k2 k3 hb2 HQ S1
  go_wp2_with fail
  refine (awake w2 (HT.out.1.below S2.out.2.2)).mono ?_
  rintro e w3 ⟨rfl, hb3⟩
  have S3 := Lib.hid (show SeesP w3 (· < w3.heap.size) A3 (Ws L) ∧ SeesP w3 (· < w3.heap.size) A4 (Ws L) ∧ Below w.heap.size w w3 from
    ⟨SeesP.iff_sees.2 ((SeesP.iff_sees.1 S2.out.1).on hb3), SeesP.iff_sees.2 ((SeesP.iff_sees.1 S2.out.2.1).on hb3), below_on S2.out.2.2 hb3⟩)
  clear hb3 S2
  go_wp2_with fail
  refine (ref_sameW L A3 A4 c3 c4 w3 _ _ (by omega) S3.out.1 S3.out.2.1).mono ?_
  rintro e w4 ⟨rfl, n, rfl⟩
  go_wp2_with fail
  go_ret
  exact ⟨rfl, below_dn S3.out.2.2 n⟩

/-! ### the given statement, out of the walk -/
set_option maxRecDepth 100000 in
theorem lifted (os : Os) (started : os.Started) (H : Type) (enc : TypeId × Value → H) :
    ReturnsInHanded {} Tryd.checked os 4 .any (fun w args => (Rows.digestCompressesSpec.pre enc Tryd.prog Tryd.f4 Rows.digestCompressesRow.domain false w args ∧ laidMetH Tryd.prog laidL w) ∧ sizedMet enc Tryd.prog Tryd.f4 (OpenSpec.ofChange Rows.digestCompressesSpec) false w args)
      (Rows.digestCompressesSpec.post enc Tryd.prog Tryd.f4 false true false false) := by
  refine returnsInHanded_of_change_and (C := Tryd.checked) (X := fun w _ => laidMetH Tryd.prog laidL w) (fun _ _ _ hh h => h.of_heap hh) own started (by kernel_rfl) Tryd.func4
    (ChangeSpec.witness_shaped (enc := enc) (C := Tryd.checked) (os := os) (X := fun w _ => laidMetH Tryd.prog laidL w) false (World.laidAll Tryd.prog os laidL) #[.slice none 0 0, .slice none 0 0] 8 (World.laidAll_os _ _ _)
      (World.shaped_of_ZipB (by kernel_rfl) (by kernel_rfl)) (by kernel_rfl) (by kernel_rfl) (by kernel_rfl)
      (by rw [MakeChecks.laidMetH_plain _ _ _ (by kernel_rfl)]; exact laidMet_laidAll _ (by kernel_rfl) (by kernel_rfl))) ?_
  intro W base args ds gs before hval0 hW hcnd hsz0 hL _
  have hsz : (DataW.weightsEach Tryd.prog (Tryd.f4.params.toList ++ Rows.digestCompressesSpec.plain.varTypes Tryd.prog) (ds ++ gs)).all (· ≤ reachBytes) = true := hsz0
  have hval : ∀ (j : Nat) t v, Tryd.f4.params[j]? = some t → args[j]? = some v → Value.okWide Tryd.prog W .any base t v := hval0
  have hW' := hW
  obtain ⟨p, q, hA0, hV, rfl, hfz, hnd⟩ := hW
  have hA : DataW.TrodAll enc Tryd.prog W 0 (fun _ => true) true Tryd.f4.params.toList args.toList ds p := hA0
  rw [Tryd.params4] at hA hval hsz
  obtain ⟨v0, vs0, d0, ds0, p0, q0, hargs, rfl, rfl, h0, r0⟩ := trodAll_cons hA
  obtain ⟨v1, vs1, d1, ds1, p1, q1, rfl, rfl, rfl, h1, r1⟩ := trodAll_cons r0
  obtain ⟨rfl, rfl, rfl⟩ := trodAll_nil r1
  obtain rfl : args = #[v0, v1] := by cases args; simp_all
  obtain ⟨rfl, rfl⟩ := trodVars_none hV
  obtain ⟨a0, len0, cap0, rfl⟩ := okWide_slice Tryd.underlying27 (hval 0 27 v0 rfl rfl)
  have lt0 : ∀ x ∈ p0, x.block < W.heap.size := by obtain ⟨m, hm⟩ := h0; exact DataW.trod_lt m _ _ _ hm
  obtain ⟨x0, rfl, see0, hl0, nn0, hc0⟩ := open_u32s h0 lt0
  have m0 := reach_u32s hsz (j := 0) rfl rfl hl0 hc0
  obtain ⟨a1, len1, cap1, rfl⟩ := okWide_slice Tryd.underlying22 (hval 1 22 v1 rfl rfl)
  have lt1 : ∀ x ∈ p1, x.block < W.heap.size := by obtain ⟨m, hm⟩ := h1; exact DataW.trod_lt m _ _ _ hm
  obtain ⟨x1, rfl, see1, hl1, nn1, hc1⟩ := open_u8s h1 lt1
  have m1 := reach_u8s hsz (j := 1) rfl rfl hl1 hc1
  clear hA0 hval0
  refine (walk a0 cap0 x0 a1 cap1 x1 W (of_laid hL) see0 m0 nn0 see1 m1 nn1).mono fun e W' ⟨he, bel⟩ => ?_
  subst he
  exact ⟨_, rfl, _, _, _, [], _, [], hW', trodAll_mk1 (shut_bool Tryd.underlying4 _), (trodAll_cons_mk (Below.trod laidOut (by kernel_rfl) (of_decide_eq_true (by kernel_rfl)) h0 bel lt0) (trodAll_cons_mk (Below.trod laidOut (by kernel_rfl) (of_decide_eq_true (by kernel_rfl)) h1 bel lt1) trodAll_mk0)), rfl, bel.frame _, fun h => by cases h⟩

theorem said : Rows.DigestCompressesSaid :=
  OpenClaim.holds_of_wide 4 Tryd.f4 rfl rfl rfl rfl rfl rfl rfl ⟨rfl, rfl, rfl, rfl, rfl⟩ rfl rfl rfl rfl rfl (by kernel_rfl) Tryd.func4 (by kernel_rfl)
    (of_decide_eq_true (by kernel_rfl)) (by unfold Func.isWrapper; first | (rw [if_pos (by decide +kernel)]; kernel_rfl) | (rw [if_neg (by decide +kernel)]; exact ⟨rfl, rfl⟩))
    (fun os started H enc _ => lifted os started H enc)
theorem proved : Rows.DigestCompressesCardSaid :=
  Claim7.holds_tied_plain_at .later [] laidKinds true Rows.digestCompressesCard.stood.harness false
    said (fun _ h => by cases h) (by kernel_rfl) (fun _ h => by cases h) digestCompresses_row_tie rfl ⟨rfl, rfl⟩ (by kernel_rfl) rfl
    (fun f fn hf hfn => by
      obtain rfl : f = 4 := Option.some.inj ((show Tryd.prog.funcNamed "traveldoc/traveldoclaw04.DigestCompresses" = some 4 by kernel_rfl).symm.trans hf) |>.symm
      obtain rfl : fn = Tryd.f4 := (Option.some.inj (Tryd.func4.symm.trans hfn)).symm
      exact ⟨by kernel_rfl, fun j t ht => by
        rw [Tryd.params4] at ht
        have hm : t ∈ [27, 22] := by simpa using Array.mem_of_getElem? ht
        have hall : ([27, 22].all fun u => !Tryd.prog.wantsStandIn u) = true := by kernel_rfl
        exact (show Tryd.prog.wantsStandIn t = false by simpa using List.all_eq_true.1 hall t hm)⟩)
    (by kernel_rfl)
end Go.Proofs.YtlcenfjpfnldlaaDoor.digestCompresses
