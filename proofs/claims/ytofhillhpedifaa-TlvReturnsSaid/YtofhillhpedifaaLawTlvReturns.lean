/-
  What is proved here: the given statement TlvReturnsSaid, for every list of numbers; no condition.
-/
import Derived.Test.YtofhillhpedifaaOpenI
import Derived.Test.YtofhillhpedifaaRoll
import Derived.Test.YtofhillhpedifaaDicN
import Derived.Test.YtofhillhpedifaaAwt
import Derived.Test.YtofhillhpedifaaSame
import Derived.Test.YtofhillhpedifaaLse
import Derived.Test.YtofhillhpedifaaCan
namespace Go.Proofs.Ytofhillhpedifaa.tlvReturns
open Go.ChangeShapes Go.WideShapes Go.ChangeAt Go.RowKit
open Go.ChangeMaps (open_string shut_string)
set_option linter.unusedVariables false

/-- what stays as it is through the law: the dice, and the objects that they made -/
def Kp (w wi : World) (A : Option Addr) (f : F) : Prop := Below w.heap.size w wi ∧ DiceOk wi w.heap.size ∧ SeesF wi (fun b => b < wi.heap.size ∧ b ≠ w.heap.size) A f
def Fp (w wi : World) (A : Option Addr) (f : F) : Prop := SeesF wi (fun b => b < wi.heap.size ∧ b ≠ w.heap.size) A f
def Km (w wi : World) (A : Option Addr) (l : List UInt8) : Prop := SeesP wi (fun b => b < wi.heap.size ∧ b ≠ w.heap.size) A (Us l)
theorem Fp.gr {w wi wj : World} {A : Option Addr} {f : F} (h : Fp w wi A f) (hg : wi.grownBy wj (some w.heap.size)) : Fp w wj A f :=
  (SeesF.keep h fun q hq => grown_cell hg hq.1 hq.2).imp fun b hb => ⟨Nat.lt_of_lt_of_le hb.1 hg.size, hb.2⟩
theorem Km.gr {w wi wj : World} {A : Option Addr} {l : List UInt8} (h : Km w wi A l) (hg : wi.grownBy wj (some w.heap.size)) : Km w wj A l :=
  (SeesP.keep h fun q hq => grown_cell hg hq.1 hq.2).imp fun b hb => ⟨Nat.lt_of_lt_of_le hb.1 hg.size, hb.2⟩
theorem Kp.gr {w wi wj : World} {A : Option Addr} {f : F} (h : Kp w wi A f) (hg : wi.grownBy wj (some w.heap.size)) (hd : DiceOk wj w.heap.size) : Kp w wj A f :=
  ⟨below_row h.1 hg, hd, Fp.gr h.2.2 hg⟩
theorem Kp.on {w wi wj : World} {A : Option Addr} {f : F} (h : Kp w wi A f) (hb : Below wi.heap.size wi wj) : Kp w wj A f :=
  ⟨below_on h.1 hb, h.2.1.below hb, Fp.gr h.2.2 (grown_below hb)⟩
theorem Fp.new {w wi wj : World} {A B : Option Addr} {f g : F} (h : Kp w wi A f) (hs : SeesF wj (newB wi wj) B g) : Fp w wj B g :=
  SeesF.imp hs fun b hb => ⟨hb.2, by have := h.2.1.lt; have := hb.1; omega⟩
theorem Km.new {w wi wj : World} {A B : Option Addr} {f : F} {l : List UInt8} (h : Kp w wi A f) (hs : SeesP wj (fun b => wi.heap.size ≤ b ∧ b < wj.heap.size) B (Us l)) : Km w wj B l :=
  SeesP.imp hs fun b hb => ⟨hb.2, by have := h.2.1.lt; have := hb.1; omega⟩
theorem Fp.drew {w wi : World} {A : Option Addr} {f : F} (h : Fp w wi A f) (q : Nat) : Fp w (wi.drewN q) A f := (SeesF.keep h fun _ _ => rfl)
theorem Km.drew {w wi : World} {A : Option Addr} {l : List UInt8} (h : Km w wi A l) (q : Nat) : Km w (wi.drewN q) A l := (SeesP.keep h fun _ _ => rfl)

set_option maxRecDepth 20000 in
set_option maxHeartbeats 2000000 in
theorem walk (A0 : Option Addr) (c0 : Nat) (x0 : List Int) (w : World) (h0 : SeesP w (· < w.heap.size) A0 (x0.map (Value.int .i64))) (m0 : x0.length ≤ 140737488351232) (r0 : ∀ y ∈ x0, -9223372036854775808 ≤ y ∧ y ≤ 9223372036854775807) :
    Calls Try.prog 7 #[.slice A0 x0.length c0] w fun e w' => e = .returned (.bool true) ∧ Below w.heap.size w w' := by
  have HLt := Lib.hid (made_light A0 x0.length c0 w m0)
  have HRo := Lib.hid (made_roll A0 c0 x0 w m0 r0 h0)
  clear h0 r0
  go_enter Try.func7, Try.ntmps7
  go_wp2_with fail
  refine HLt.out.mono ?_
  rintro e w' ⟨rfl, hw⟩
  subst hw
  by_cases hL : x0.length ≤ 400
  · rw [decide_eq_true hL]
    clear hL HLt
    go_wp2_with fail
    refine HRo.out.mono ?_
    rintro e w1 ⟨rfl, hd1, hb1⟩
    have HN := Lib.hid (dice_nodes 4 (by decide) w'.heap.size 4 w1 (by decide) (by decide) hd1)
    have HB := Lib.hid (show Below w'.heap.size w' w1 ∧ w'.heap.size < w1.heap.size from ⟨hb1, hd1.lt⟩)
    clear HRo hd1 hb1
    go_wp2_with fail
    refine HN.out.mono ?_
    rintro e w2 ⟨f, Af, cf, rfl, hfg, hfl, hfs, hg2, hd2⟩
    have hsz : f.size ≤ 768 := by have := F.gd_size hfg; omega
    have hE2 : (encE f = 0 ∧ f.size ≤ 256 ∧ encN f ≤ 4096) ∨ encE f = 2 := by
      have h1 := F.gd_chk (d := 1) hfg (by decide)
      unfold encE
      rw [if_neg (by omega)]
      by_cases h2 : 256 < f.size
      · rw [if_pos h2]; exact .inr rfl
      · rw [if_neg h2]
        by_cases h3 : 4096 < encN f
        · rw [if_pos h3]; exact .inr rfl
        · rw [if_neg h3]; exact .inl ⟨rfl, by omega, by omega⟩
    have K2 := Lib.hid (show Kp w' w2 Af f from ⟨below_row HB.out.1 hg2, hd2, hfs.imp fun b hb => ⟨hb.2, by have := hb.1; have := HB.out.2; omega⟩⟩)
    have HG := Lib.hid hfg
    have HO := Lib.hid (F.gd_ok hfg)
    have HE := Lib.hid (tlv_encode_n f Af cf w2 (by omega) HO.out (K2.out.2.2.imp fun b hb => hb.1))
    clear HN hfg hfl hfs hg2 hd2 HB
    go_wp2_with fail
    refine HE.out.mono ?_
    rintro e w3 ⟨A3, c3, rfl, s3, hb3, hc3⟩
    have K3 := Lib.hid (K2.out.on hb3)
    have M3 := Lib.hid (Km.new K2.out s3)
    clear HE K2 s3 hb3
    rcases hE2 with ⟨hE, hs256, hN⟩ | hE
    · rw [hE]
      have hB : encB f = enc f := by unfold encB; rw [if_pos hE]
      obtain ⟨l, hl⟩ : ∃ l, l = enc f := ⟨_, rfl⟩
      have hll : l.length ≤ 4096 := by rw [hl, enc_length]; exact hN
      rw [hB, ← hl] at hc3 M3
      rw [hB, ← hl]
      have hp : ∀ st, parse st l = .ok (f, f.size) := fun st => by
        rw [hl]
        exact parse_loose (F.gd_more HG.out (by decide)) (loose_enc st f (by omega)) (by rw [← hl]; exact hll) hs256
      have hp1 := tlv_parse true l A3 c3 w3 (by omega) hc3 (M3.out.imp fun b hb => hb.1)
      rw [hp true] at hp1
      have HP1 := Lib.hid hp1
      have HP := Lib.hid (show parse false l = .ok (f, f.size) ∧ encB f = l ∧ encE f = 0 from ⟨hp false, by rw [hB, hl], hE⟩)
      clear hp hp1 hl hB hE hN
      go_wp2_with fail
      refine HP1.out.mono ?_
      rintro e w4 ⟨hb4, A4, c4, rfl, s4⟩
      have K4 := Lib.hid (K3.out.on hb4)
      have M4 := Lib.hid (M3.out.gr (grown_below hb4))
      have X4 := Lib.hid (Fp.new K3.out s4)
      clear HP1 hb4 s4 K3 M3
      have hp1 := tlv_parse false l A3 c3 w4 (by omega) hc3 (M4.out.imp fun b hb => hb.1)
      rw [HP.out.1] at hp1
      have HP1 := Lib.hid hp1
      clear hp1
      go_wp2_with fail
      refine HP1.out.mono ?_
      rintro e w5 ⟨hb5, A5, c5, rfl, s5⟩
      have K5 := Lib.hid (K4.out.on hb5)
      have M5 := Lib.hid (M4.out.gr (grown_below hb5))
      have X5 := Lib.hid (X4.out.gr (grown_below hb5))
      have Y5 := Lib.hid (Fp.new K4.out s5)
      clear HP1 hb5 s5 K4 M4 X4
      have HL := Lib.hid (made_loose 1000 (by decide) f 4 Af cf w'.heap.size w5 (by omega) HG.out K5.out.2.2 K5.out.2.1)
      go_wp2_with fail
      refine HL.out.mono ?_
      rintro e w6 ⟨b, A6, c6, rfl, hbc, hbn, s6, hlo, hbl, hg6, hd6⟩
      have K6 := Lib.hid (K5.out.gr hg6 hd6)
      have M6 := Lib.hid (M5.out.gr hg6)
      have X6 := Lib.hid (X5.out.gr hg6)
      have Y6 := Lib.hid (Y5.out.gr hg6)
      have B6 := Lib.hid (Km.new K5.out s6)
      have HLo := Lib.hid hlo
      clear HL hbn s6 hlo hg6 hd6 K5 M5 X5 Y5
      by_cases hbig : 4096 < b.length
      · have d1 : decide ((4096 : Int) < (b.length : Int)) = true := by simp; omega
        clear hbig
        go_wp2_with fail
        refine (awake _).mono ?_
        rintro e w7 ⟨rfl, hb7⟩
        have HB7 := Lib.hid (below_on K6.out.1 hb7)
        clear hb7
        go_wp2_with fail
        go_ret
        exact ⟨rfl, HB7.out⟩
      · have d1 : decide ((4096 : Int) < (b.length : Int)) = false := by simp; omega
        have hpb : parse false b = .ok (f, f.size) := parse_loose (F.gd_more HG.out (by decide)) (HLo.out (by omega)) (by omega) hs256
        have hp1 := tlv_parse false b A6 c6 w6 (by omega) hbc (B6.out.imp fun b hb => hb.1)
        rw [hpb] at hp1
        have HP1 := Lib.hid hp1
        have HPB := Lib.hid hpb
        have hb4 : b.length ≤ 4096 := by omega
        clear hp1 hpb hbig
        go_wp2_with fail
        refine HP1.out.mono ?_
        rintro e w7 ⟨hb7, A7, c7, rfl, s7⟩
        have K7 := Lib.hid (K6.out.on hb7)
        have M7 := Lib.hid (M6.out.gr (grown_below hb7))
        have X7 := Lib.hid (X6.out.gr (grown_below hb7))
        have Y7 := Lib.hid (Y6.out.gr (grown_below hb7))
        have B7 := Lib.hid (B6.out.gr (grown_below hb7))
        have Z7 := Lib.hid (Fp.new K6.out s7)
        clear HP1 hb7 s7 K6 M6 X6 Y6 B6
        have hca := tlv_canon f b A6 c6 f.size w7 HPB.out (by omega) HO.out (by omega) hbc (B7.out.imp fun b hb => hb.1)
        rw [HP.out.2.1, HP.out.2.2] at hca
        have HC := Lib.hid hca
        clear hca
        go_wp2_with fail
        refine HC.out.mono ?_
        rintro e w8 ⟨A8, c8, rfl, s8, hb8, hc8⟩
        have K8 := Lib.hid (K7.out.on hb8)
        have M8 := Lib.hid (M7.out.gr (grown_below hb8))
        have X8 := Lib.hid (X7.out.gr (grown_below hb8))
        have Y8 := Lib.hid (Y7.out.gr (grown_below hb8))
        have Z8 := Lib.hid (Z7.out.gr (grown_below hb8))
        have C8 := Lib.hid (Km.new K7.out s8)
        clear HC hb8 s8 hc8 K7 M7 X7 Y7 Z7 B7
        go_wp2_with fail
        refine (awake _).mono ?_
        rintro e w9 ⟨rfl, hb9⟩
        have K9 := Lib.hid (K8.out.on hb9)
        have M9 := Lib.hid (M8.out.gr (grown_below hb9))
        have X9 := Lib.hid (X8.out.gr (grown_below hb9))
        have Y9 := Lib.hid (Y8.out.gr (grown_below hb9))
        have Z9 := Lib.hid (Z8.out.gr (grown_below hb9))
        have C9 := Lib.hid (C8.out.gr (grown_below hb9))
        clear hb9 K8 M8 X8 Y8 Z8 C8
        go_wp2_with fail
        refine (same_yes 1000 (by decide) f A4 Af c4 cf _ _ _ (by omega) HO.out X9.out K9.out.2.2).mono ?_
        rintro e wA ⟨rfl, q1, hq1⟩
        have HQ := Lib.hid hq1
        have Y10 := Lib.hid (show Fp w' wA A5 f from by rw [HQ.out]; exact Y9.out.drew q1)
        have L10 := Lib.hid (show Fp w' wA Af f from by rw [HQ.out]; exact Fp.drew K9.out.2.2 q1)
        clear hq1
        go_wp2_with fail
        refine (same_yes 1000 (by decide) f A5 Af c5 cf _ _ _ (by omega) HO.out Y10.out L10.out).mono ?_
        rintro e wB ⟨rfl, q2, hq2⟩
        have HQ := Lib.hid (show wB = w9.drewN (q1 + q2) from by rw [hq2, HQ.out, World.drewN_drewN])
        have Z10 := Lib.hid (show Fp w' wB A7 f from by rw [HQ.out]; exact Z9.out.drew _)
        have L10 := Lib.hid (show Fp w' wB Af f from by rw [HQ.out]; exact Fp.drew K9.out.2.2 _)
        clear hq2
        go_wp2_with fail
        refine (same_yes 1000 (by decide) f A7 Af c7 cf _ _ _ (by omega) HO.out Z10.out L10.out).mono ?_
        rintro e wC ⟨rfl, q3, hq3⟩
        have HQ := Lib.hid (show wC = w9.drewN (q1 + q2 + q3) from by rw [hq3, HQ.out, World.drewN_drewN])
        clear hq3
        obtain ⟨sx, hsx⟩ : ∃ sx, sx = S l := ⟨_, rfl⟩
        have v1 : (convert 27 9 (.slice A8 l.length c8)).run Try.prog wC = .ok (.string sx) wC := by rw [HQ.out, hsx]; exact conv_drew C9.out c8 _
        have v2 : (convert 27 9 (.slice A3 l.length c3)).run Try.prog wC = .ok (.string sx) wC := by rw [HQ.out, hsx]; exact conv_drew M9.out c3 _
        clear hsx
        go_wp2_with fail
        go_ret
        refine ⟨rfl, ?_⟩
        rw [HQ.out]
        exact below_dn K9.out.1 _
    · rw [hE]
      clear hE
      go_wp2_with fail
      refine (awake _).mono ?_
      rintro e w4 ⟨rfl, hb4⟩
      have HB4 := Lib.hid (below_on K3.out.1 hb4)
      clear hb4
      go_wp2_with fail
      go_ret
      exact ⟨rfl, HB4.out⟩
  · rw [decide_eq_false hL]
    clear hL HLt HRo
    go_wp2_with fail
    refine (awake _).mono ?_
    rintro e w2 ⟨rfl, hb⟩
    have HB := Lib.hid hb
    clear hb
    go_wp2_with fail
    go_ret
    exact ⟨rfl, HB.out⟩

/-! ### the given statement, out of the walk -/
set_option maxRecDepth 100000 in
theorem lifted (os : Os) (started : os.Started) (H : Type) (enc : TypeId × Value → H) :
    ReturnsInHanded {} Try.checked os 7 .any (Rows.tlvReturnsSpec.pre6 enc Try.prog Try.f7 Rows.tlvReturnsRow.domain false) (Rows.tlvReturnsSpec.post enc Try.prog Try.f7 false true false false) := by
  refine returnsInHanded_of_change_sized (C := Try.checked) own started (by kernel_rfl) Try.func7
    (ChangeSpec.witness6 (enc := enc) (C := Try.checked) false ⟨#[], #[.slice none 0 0], []⟩ 8 (by kernel_rfl) (by kernel_rfl) (by kernel_rfl) (by kernel_rfl)) ?_
  intro W base args ds gs before hval0 hW hcnd hsz0 _
  have hsz : (DataW.weightsEach Try.prog (Try.f7.params.toList ++ Rows.tlvReturnsSpec.plain.varTypes Try.prog) (ds ++ gs)).all (· ≤ reachBytes) = true := hsz0
  have hval : ∀ (j : Nat) t v, Try.f7.params[j]? = some t → args[j]? = some v → Value.okWide Try.prog W .any base t v := hval0
  have hW' := hW
  obtain ⟨p, q, hA0, hV, rfl, hfz, hnd⟩ := hW
  have hA : DataW.TrodAll enc Try.prog W 0 (fun _ => true) true Try.f7.params.toList args.toList ds p := hA0
  rw [Try.params7] at hA hval hsz
  obtain ⟨v0, vs0, d0, ds0, p0, q0, hargs, rfl, rfl, h0, r0⟩ := trodAll_cons hA
  obtain ⟨rfl, rfl, rfl⟩ := trodAll_nil r0
  obtain rfl : args = #[v0] := by cases args; simp_all
  obtain ⟨rfl, rfl⟩ := trodVars_none hV
  obtain ⟨a0, len0, cap0, rfl⟩ := okWide_slice Try.underlying25 (hval 0 25 v0 rfl rfl)
  have lt0 : ∀ x ∈ p0, x.block < W.heap.size := by obtain ⟨m, hm⟩ := h0; exact DataW.trod_lt m _ _ _ hm
  obtain ⟨x0, rfl, see0, rng0, hl0, hc0⟩ := open_i64s h0 lt0
  have m0 := reach_i64s hsz (j := 0) rfl rfl hl0 hc0
  clear hA0 hval0
  refine (walk a0 cap0 x0 W see0 m0 rng0).mono fun e W' ⟨he, bel⟩ => ?_
  subst he
  exact ⟨_, rfl, _, _, _, [], _, [], hW', trodAll_mk1 (shut_bool Try.underlying4 _), (trodAll_cons_mk (Below.trod laidOut (by kernel_rfl) (of_decide_eq_true (by kernel_rfl)) h0 bel lt0) trodAll_mk0), rfl, bel.frame _, fun h => by cases h⟩

theorem proved : Rows.TlvReturnsSaid :=
  OpenClaim.holds_of_wide 7 Try.f7 rfl rfl rfl rfl rfl rfl rfl ⟨rfl, rfl, rfl, rfl, rfl⟩ rfl rfl rfl rfl rfl (by kernel_rfl) Try.func7 (by kernel_rfl)
    (of_decide_eq_true (by kernel_rfl)) (by unfold Func.isWrapper; first | (rw [if_pos (by decide +kernel)]; kernel_rfl) | (rw [if_neg (by decide +kernel)]; exact ⟨rfl, rfl⟩))
    (fun os started H enc _ => lifted os started H enc)
end Go.Proofs.Ytofhillhpedifaa.tlvReturns
