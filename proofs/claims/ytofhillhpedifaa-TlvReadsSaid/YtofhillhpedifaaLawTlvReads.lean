/-
  What is proved here: the given statement TlvReadsSaid, for all bytes; no condition.
-/
import Derived.Test.YtofhillhpedifaaOpen
import Derived.Test.YtofhillhpedifaaAwt
import Derived.Test.YtofhillhpedifaaSame
import Derived.Test.YtofhillhpedifaaRPa
namespace Go.Proofs.Ytofhillhpedifaa.tlvReads
open Go.ChangeShapes Go.WideShapes Go.ChangeAt Go.RowKit
open Go.ChangeMaps (open_string shut_string)
set_option linter.unusedVariables false

theorem bs_on {w w' : World} {A : Option Addr} {l : List UInt8} (h : SeesP w (· < w.heap.size) A (Us l)) (hb : Below w.heap.size w w') : SeesP w' (· < w'.heap.size) A (Us l) :=
  (SeesP.keep h fun q hq => hb.cell hq).imp fun b h2 => Nat.lt_of_lt_of_le h2 hb.size
theorem fs_on {w w' : World} {A : Option Addr} {f : F} (h : SeesF w (· < w.heap.size) A f) (hb : Below w.heap.size w w') : SeesF w' (· < w'.heap.size) A f :=
  (SeesF.keep h fun q hq => hb.cell hq).imp fun b h2 => Nat.lt_of_lt_of_le h2 hb.size
theorem fs_drew {w : World} {A : Option Addr} {f : F} (h : SeesF w (· < w.heap.size) A f) (q : Nat) : SeesF (w.drewN q) (· < (w.drewN q).heap.size) A f := SeesF.keep h fun _ _ => rfl
theorem bs_drew {w : World} {A : Option Addr} {l : List UInt8} (h : SeesP w (· < w.heap.size) A (Us l)) (q : Nat) : SeesP (w.drewN q) (· < (w.drewN q).heap.size) A (Us l) := SeesP.keep h fun _ _ => rfl

set_option maxRecDepth 20000 in
set_option maxHeartbeats 4000000 in
theorem walk (A0 : Option Addr) (c0 : Nat) (x0 : List UInt8) (st : Bool) (w : World) (h0 : Sees w w.heap.size A0 (Us x0)) (m0 : x0.length ≤ 140737488351232) (l0 : x0.length ≤ c0) :
    Calls Try.prog 5 #[.slice A0 x0.length c0, .bool st] w fun e w' => e = .returned (.bool true) ∧ Below w.heap.size w w' := by
  have B0 := Lib.hid (show SeesP w (· < w.heap.size) A0 (Us x0) from h0)
  have HP := Lib.hid (tlv_parse st x0 A0 c0 w m0 l0 B0.out)
  obtain ⟨r, hr⟩ : ∃ r, r = parse st x0 := ⟨_, rfl⟩
  rw [← hr] at HP
  have HR := Lib.hid hr
  obtain ⟨sn, hsn⟩ : ∃ n, n = szN x0 := ⟨_, rfl⟩
  obtain ⟨se, hse⟩ : ∃ n, n = szE x0 := ⟨_, rfl⟩
  obtain ⟨cb, hcb⟩ : ∃ n, n = canB (parse false x0) := ⟨_, rfl⟩
  obtain ⟨ce, hce⟩ : ∃ n, n = canE (parse false x0) := ⟨_, rfl⟩
  have HQ := Lib.hid (show _ ∧ _ ∧ _ ∧ _ from ⟨hsn, hse, hcb, hce⟩)
  clear h0 hr hsn hse hcb hce
  go_enter Try.func5, Try.ntmps5
  go_wp2_with fail
  refine HP.out.mono ?_
  rintro e w1 ⟨hb1, hr1⟩
  have B1 := Lib.hid (bs_on B0.out hb1)
  have HB1 := Lib.hid hb1
  have hp2 := ref_parse st x0 A0 c0 w1 m0 l0 B1.out
  rw [← HR.out] at hp2
  have HP2 := Lib.hid hp2
  clear HP B0 hb1 hp2
  cases r with
  | error x =>
    obtain ⟨rfl, hx⟩ := hr1
    clear hx
    go_wp2_with fail
    refine HP2.out.mono ?_
    rintro e w2 ⟨hb2, hr2⟩
    obtain ⟨rfl, _⟩ := hr2
    have B2 := Lib.hid (bs_on B1.out hb2)
    have HB2 := Lib.hid (below_on HB1.out hb2)
    skip
    have hs3 := tlv_sizeof A0 c0 x0 w2 B2.out m0
    unfold SzIs at hs3
    rw [← HQ.out.1, ← HQ.out.2.1] at hs3
    have HS3 := Lib.hid hs3
    clear HP2 B1 HB1 hb2 hs3 HR
    go_wp2_with fail
    refine HS3.out.mono ?_
    rintro e w3 ⟨rfl, hb3⟩
    have B3 := Lib.hid (bs_on B2.out hb3)
    have HB3 := Lib.hid (below_on HB2.out hb3)
    skip
    have hs4 := ref_sizeof A0 c0 x0 w3 _ B3.out m0 l0
    rw [← HQ.out.1, ← HQ.out.2.1] at hs4
    have HS4 := Lib.hid hs4
    clear HS3 B2 HB2 hb3 hs4
    go_wp2_with fail
    refine HS4.out.mono ?_
    rintro e w4 ⟨rfl, q4, hq4⟩
    have hb4 : Below w3.heap.size w3 w4 := by rw [hq4]; exact below_drewN _ _ _
    have B4 := Lib.hid (bs_on B3.out hb4)
    have HB4 := Lib.hid (below_on HB3.out hb4)
    skip
    have hs5 := tlv_canonical x0 A0 c0 w4 m0 l0 B4.out
    rw [← HQ.out.2.2.1, ← HQ.out.2.2.2] at hs5
    have HS5 := Lib.hid hs5
    clear HS4 B3 HB3 hb4 hq4 hs5
    go_wp2_with fail
    refine HS5.out.mono ?_
    rintro e w5 ⟨A5, c5, rfl, s5, hb5, hc5⟩
    have B5 := Lib.hid (bs_on B4.out hb5)
    have HB5 := Lib.hid (below_on HB4.out hb5)
    have C5 := Lib.hid (show SeesP w5 (· < w5.heap.size) A5 (Us cb) from s5.imp fun b hb => hb.2)
    skip
    have hs6 := ref_canonical x0 A0 c0 w5 m0 l0 B5.out
    rw [← HQ.out.2.2.1, ← HQ.out.2.2.2] at hs6
    have HS6 := Lib.hid hs6
    clear HS5 B4 HB4 hb5 hs6 s5 hc5
    go_wp2_with fail
    refine HS6.out.mono ?_
    rintro e w6 ⟨A6, c6, rfl, s6, hb6, hc6⟩
    have HB6 := Lib.hid (below_on HB5.out hb6)
    have C6 := Lib.hid (bs_on C5.out hb6)
    have D6 := Lib.hid (show SeesP w6 (· < w6.heap.size) A6 (Us cb) from s6.imp fun b hb => hb.2)
    skip
    clear HS6 B5 HB5 hb6 s6 hc6 C5 HQ
    go_wp2_with fail
    refine (awake _).mono ?_
    rintro e w7 ⟨rfl, hb7⟩
    have HB7 := Lib.hid (below_on HB6.out hb7)
    have C7 := Lib.hid (bs_on C6.out hb7)
    have D7 := Lib.hid (bs_on D6.out hb7)
    skip
    clear HB6 hb7 C6 D6
    go_wp2_with fail
    refine (same_yes 1000 (by decide) .nil none none 0 0 w7 (fun _ => True) (fun _ => True) (by decide) trivial SeesF.nil_ SeesF.nil_).mono ?_
    rintro e w8 ⟨rfl, q8, hq8⟩
    have HQ8 := Lib.hid hq8
    obtain ⟨sx, hsx⟩ : ∃ sx, sx = S cb := ⟨_, rfl⟩
    have v1 : (convert 27 9 (.slice A5 cb.length c5)).run Try.prog w8 = .ok (.string sx) w8 := by rw [hq8, hsx]; exact conv_drew C7.out c5 _
    have v2 : (convert 27 9 (.slice A6 cb.length c6)).run Try.prog w8 = .ok (.string sx) w8 := by rw [hq8, hsx]; exact conv_drew D7.out c6 _
    clear hq8 hsx
    go_wp2_with fail
    go_ret
    refine ⟨rfl, ?_⟩
    rw [HQ8.out]
    exact below_dn HB7.out _
  | ok q =>
    obtain ⟨f, n⟩ := q; obtain ⟨A1, c1, rfl, s1⟩ := hr1
    have X1 := Lib.hid (show SeesF w1 (· < w1.heap.size) A1 f from s1.imp fun b hb => hb.2); obtain ⟨hfit, hsz⟩ := parse_fits HR.out.symm; have HO := Lib.hid (F.fit_ok hfit); clear s1 hfit
    go_wp2_with fail
    refine HP2.out.mono ?_
    rintro e w2 ⟨hb2, hr2⟩
    obtain ⟨A2, c2, rfl, s2⟩ := hr2
    have B2 := Lib.hid (bs_on B1.out hb2)
    have HB2 := Lib.hid (below_on HB1.out hb2)
    have X2 := Lib.hid (fs_on X1.out hb2); have Y2 := Lib.hid (show SeesF w2 (· < w2.heap.size) A2 f from s2.imp fun b hb => hb.2); clear X1 s2
    have hs3 := tlv_sizeof A0 c0 x0 w2 B2.out m0
    unfold SzIs at hs3
    rw [← HQ.out.1, ← HQ.out.2.1] at hs3
    have HS3 := Lib.hid hs3
    clear HP2 B1 HB1 hb2 hs3 HR
    go_wp2_with fail
    refine HS3.out.mono ?_
    rintro e w3 ⟨rfl, hb3⟩
    have B3 := Lib.hid (bs_on B2.out hb3)
    have HB3 := Lib.hid (below_on HB2.out hb3)
    have X3 := Lib.hid (fs_on X2.out hb3); have Y3 := Lib.hid (fs_on Y2.out hb3); clear X2 Y2
    have hs4 := ref_sizeof A0 c0 x0 w3 _ B3.out m0 l0
    rw [← HQ.out.1, ← HQ.out.2.1] at hs4
    have HS4 := Lib.hid hs4
    clear HS3 B2 HB2 hb3 hs4
    go_wp2_with fail
    refine HS4.out.mono ?_
    rintro e w4 ⟨rfl, q4, hq4⟩
    have hb4 : Below w3.heap.size w3 w4 := by rw [hq4]; exact below_drewN _ _ _
    have B4 := Lib.hid (bs_on B3.out hb4)
    have HB4 := Lib.hid (below_on HB3.out hb4)
    have X4 := Lib.hid (fs_on X3.out hb4); have Y4 := Lib.hid (fs_on Y3.out hb4); clear X3 Y3
    have hs5 := tlv_canonical x0 A0 c0 w4 m0 l0 B4.out
    rw [← HQ.out.2.2.1, ← HQ.out.2.2.2] at hs5
    have HS5 := Lib.hid hs5
    clear HS4 B3 HB3 hb4 hq4 hs5
    go_wp2_with fail
    refine HS5.out.mono ?_
    rintro e w5 ⟨A5, c5, rfl, s5, hb5, hc5⟩
    have B5 := Lib.hid (bs_on B4.out hb5)
    have HB5 := Lib.hid (below_on HB4.out hb5)
    have C5 := Lib.hid (show SeesP w5 (· < w5.heap.size) A5 (Us cb) from s5.imp fun b hb => hb.2)
    have X5 := Lib.hid (fs_on X4.out hb5); have Y5 := Lib.hid (fs_on Y4.out hb5); clear X4 Y4
    have hs6 := ref_canonical x0 A0 c0 w5 m0 l0 B5.out
    rw [← HQ.out.2.2.1, ← HQ.out.2.2.2] at hs6
    have HS6 := Lib.hid hs6
    clear HS5 B4 HB4 hb5 hs6 s5 hc5
    go_wp2_with fail
    refine HS6.out.mono ?_
    rintro e w6 ⟨A6, c6, rfl, s6, hb6, hc6⟩
    have HB6 := Lib.hid (below_on HB5.out hb6)
    have C6 := Lib.hid (bs_on C5.out hb6)
    have D6 := Lib.hid (show SeesP w6 (· < w6.heap.size) A6 (Us cb) from s6.imp fun b hb => hb.2)
    have X6 := Lib.hid (fs_on X5.out hb6); have Y6 := Lib.hid (fs_on Y5.out hb6); clear X5 Y5
    clear HS6 B5 HB5 hb6 s6 hc6 C5 HQ
    go_wp2_with fail
    refine (awake _).mono ?_
    rintro e w7 ⟨rfl, hb7⟩
    have HB7 := Lib.hid (below_on HB6.out hb7)
    have C7 := Lib.hid (bs_on C6.out hb7)
    have D7 := Lib.hid (bs_on D6.out hb7)
    have X7 := Lib.hid (fs_on X6.out hb7); have Y7 := Lib.hid (fs_on Y6.out hb7); clear X6 Y6
    clear HB6 hb7 C6 D6
    go_wp2_with fail
    refine (same_yes 1000 (by decide) f A1 A2 c1 c2 w7 _ _ (by omega) HO.out X7.out Y7.out).mono ?_
    rintro e w8 ⟨rfl, q8, hq8⟩
    have HQ8 := Lib.hid hq8
    obtain ⟨sx, hsx⟩ : ∃ sx, sx = S cb := ⟨_, rfl⟩
    have v1 : (convert 27 9 (.slice A5 cb.length c5)).run Try.prog w8 = .ok (.string sx) w8 := by rw [hq8, hsx]; exact conv_drew C7.out c5 _
    have v2 : (convert 27 9 (.slice A6 cb.length c6)).run Try.prog w8 = .ok (.string sx) w8 := by rw [hq8, hsx]; exact conv_drew D7.out c6 _
    clear hq8 hsx
    go_wp2_with fail
    go_ret
    refine ⟨rfl, ?_⟩
    rw [HQ8.out]
    exact below_dn HB7.out _

/-! ### the given statement, out of the walk -/
set_option maxRecDepth 100000 in
theorem lifted (os : Os) (started : os.Started) (H : Type) (enc : TypeId × Value → H) :
    ReturnsInHanded {} Try.checked os 5 .any (Rows.tlvReadsSpec.pre6 enc Try.prog Try.f5 Rows.tlvReadsRow.domain false) (Rows.tlvReadsSpec.post enc Try.prog Try.f5 false true false false) := by
  refine returnsInHanded_of_change_sized (C := Try.checked) own started (by kernel_rfl) Try.func5
    (ChangeSpec.witness6 (enc := enc) (C := Try.checked) false ⟨#[], #[.slice none 0 0, .bool false], []⟩ 8 (by kernel_rfl) (by kernel_rfl) (by kernel_rfl) (by kernel_rfl)) ?_
  intro W base args ds gs before hval0 hW hcnd hsz0 _
  have hsz : (DataW.weightsEach Try.prog (Try.f5.params.toList ++ Rows.tlvReadsSpec.plain.varTypes Try.prog) (ds ++ gs)).all (· ≤ reachBytes) = true := hsz0
  have hval : ∀ (j : Nat) t v, Try.f5.params[j]? = some t → args[j]? = some v → Value.okWide Try.prog W .any base t v := hval0
  have hW' := hW
  obtain ⟨p, q, hA0, hV, rfl, hfz, hnd⟩ := hW
  have hA : DataW.TrodAll enc Try.prog W 0 (fun _ => true) true Try.f5.params.toList args.toList ds p := hA0
  rw [Try.params5] at hA hval hsz
  obtain ⟨v0, vs0, d0, ds0, p0, q0, hargs, rfl, rfl, h0, r0⟩ := trodAll_cons hA
  obtain ⟨v1, vs1, d1, ds1, p1, q1, rfl, rfl, rfl, h1, r1⟩ := trodAll_cons r0
  obtain ⟨rfl, rfl, rfl⟩ := trodAll_nil r1
  obtain rfl : args = #[v0, v1] := by cases args; simp_all
  obtain ⟨rfl, rfl⟩ := trodVars_none hV
  obtain ⟨a0, len0, cap0, rfl⟩ := okWide_slice Try.underlying27 (hval 0 27 v0 rfl rfl)
  have lt0 : ∀ x ∈ p0, x.block < W.heap.size := by obtain ⟨m, hm⟩ := h0; exact DataW.trod_lt m _ _ _ hm
  obtain ⟨x0, rfl, see0, hl0, hc0⟩ := open_u8s h0 lt0
  have m0 := reach_u8s hsz (j := 0) rfl rfl hl0 hc0
  obtain ⟨b1, rfl, rfl, rfl⟩ := open_bool Try.underlying4 (hval 1 4 v1 rfl rfl) h1
  clear hA0 hval0
  refine (walk a0 cap0 x0 b1 W see0 m0 hl0).mono fun e W' ⟨he, bel⟩ => ?_
  subst he
  exact ⟨_, rfl, _, _, _, [], _, [], hW', trodAll_mk1 (shut_bool Try.underlying4 _), (trodAll_cons_mk (Below.trod laidOut (by kernel_rfl) (of_decide_eq_true (by kernel_rfl)) h0 bel lt0) (trodAll_cons_mk (shut_bool Try.underlying4 _) trodAll_mk0)), rfl, bel.frame _, fun h => by cases h⟩

theorem proved : Rows.TlvReadsSaid :=
  OpenClaim.holds_of_wide 5 Try.f5 rfl rfl rfl rfl rfl rfl rfl ⟨rfl, rfl, rfl, rfl, rfl⟩ rfl rfl rfl rfl rfl (by kernel_rfl) Try.func5 (by kernel_rfl)
    (of_decide_eq_true (by kernel_rfl)) (by unfold Func.isWrapper; first | (rw [if_pos (by decide +kernel)]; kernel_rfl) | (rw [if_neg (by decide +kernel)]; exact ⟨rfl, rfl⟩))
    (fun os started H enc _ => lifted os started H enc)
end Go.Proofs.Ytofhillhpedifaa.tlvReads
