/-
  What is proved here: the given statement TlvStrictSaid, for every list of numbers and all bytes; no condition.
-/
import Derived.Test.YtofhillhpedifaaOpenI
import Derived.Test.YtofhillhpedifaaRoll
import Derived.Test.YtofhillhpedifaaDicN
import Derived.Test.YtofhillhpedifaaAwt
import Derived.Test.YtofhillhpedifaaSame
import Derived.Test.YtofhillhpedifaaSnd
import Derived.Test.YtofhillhpedifaaREnc
import Derived.Test.YtofhillhpedifaaSpl
namespace Go.Proofs.Ytofhillhpedifaa.tlvStrict
open Go.ChangeShapes Go.WideShapes Go.ChangeAt Go.RowKit
open Go.ChangeMaps (open_string shut_string)
set_option linter.unusedVariables false

/-- what stays as it is through the law: the dice -/
def Kd (w wi : World) : Prop := Below w.heap.size w wi ∧ DiceOk wi w.heap.size
def Fp (w wi : World) (A : Option Addr) (f : F) : Prop := SeesF wi (fun b => b < wi.heap.size ∧ b ≠ w.heap.size) A f
def Km (w wi : World) (A : Option Addr) (l : List UInt8) : Prop := SeesP wi (fun b => b < wi.heap.size ∧ b ≠ w.heap.size) A (Us l)
theorem Fp.gr {w wi wj : World} {A : Option Addr} {f : F} (h : Fp w wi A f) (hg : wi.grownBy wj (some w.heap.size)) : Fp w wj A f :=
  (SeesF.keep h fun q hq => grown_cell hg hq.1 hq.2).imp fun b hb => ⟨Nat.lt_of_lt_of_le hb.1 hg.size, hb.2⟩
theorem Km.gr {w wi wj : World} {A : Option Addr} {l : List UInt8} (h : Km w wi A l) (hg : wi.grownBy wj (some w.heap.size)) : Km w wj A l :=
  (SeesP.keep h fun q hq => grown_cell hg hq.1 hq.2).imp fun b hb => ⟨Nat.lt_of_lt_of_le hb.1 hg.size, hb.2⟩
theorem Kd.gr {w wi wj : World} (h : Kd w wi) (hg : wi.grownBy wj (some w.heap.size)) (hd : DiceOk wj w.heap.size) : Kd w wj :=
  ⟨below_row h.1 hg, hd⟩
theorem Kd.on {w wi wj : World} (h : Kd w wi) (hb : Below wi.heap.size wi wj) : Kd w wj :=
  ⟨below_on h.1 hb, h.2.below hb⟩
theorem Fp.new {w wi wj : World} {B : Option Addr} {g : F} (h : Kd w wi) (hs : SeesF wj (newB wi wj) B g) : Fp w wj B g :=
  SeesF.imp hs fun b hb => ⟨hb.2, by have := h.2.lt; have := hb.1; omega⟩
theorem Km.new {w wi wj : World} {B : Option Addr} {l : List UInt8} (h : Kd w wi) (hs : SeesP wj (fun b => wi.heap.size ≤ b ∧ b < wj.heap.size) B (Us l)) : Km w wj B l :=
  SeesP.imp hs fun b hb => ⟨hb.2, by have := h.2.lt; have := hb.1; omega⟩
theorem encB_le (f : F) : (encB f).length ≤ 4096 := by
  unfold encB
  split
  · rename_i h
    unfold encE at h
    rw [enc_length]
    split at h
    · contradiction
    · split at h
      · contradiction
      · split at h
        · contradiction
        · omega
  · simp
theorem conv_at {w : World} {p : Nat → Prop} {A : Option Addr} {x : List UInt8} (h : SeesP w p A (Us x)) (c : Nat) : (convert 27 9 (.slice A x.length c)).run Try.prog w = .ok (.string (S x)) w := conv_drew h c 0

set_option maxRecDepth 20000 in
set_option maxHeartbeats 2000000 in
theorem walk (A0 : Option Addr) (c0 : Nat) (x0 : List Int) (A1 : Option Addr) (c1 : Nat) (x1 : List UInt8) (w : World) (h0 : SeesP w (· < w.heap.size) A0 (x0.map (Value.int .i64))) (m0 : x0.length ≤ 140737488351232) (r0 : ∀ y ∈ x0, -9223372036854775808 ≤ y ∧ y ≤ 9223372036854775807)
    (h1 : Sees w w.heap.size A1 (Us x1)) (m1 : x1.length ≤ 140737488351232) (l1 : x1.length ≤ c1) :
    Calls Try.prog 8 #[.slice A0 x0.length c0, .slice A1 x1.length c1] w fun e w' => e = .returned (.bool true) ∧ Below w.heap.size w w' := by
  have HLt := Lib.hid (made_light A0 x0.length c0 w m0)
  have HRo := Lib.hid (made_roll A0 c0 x0 w m0 r0 h0)
  have HX := Lib.hid (show Sees w w.heap.size A1 (Us x1) ∧ x1.length ≤ c1 ∧ x1.length ≤ 140737488351232 from ⟨h1, l1, m1⟩)
  clear h0 r0 h1 m1 l1
  go_enter Try.func8, Try.ntmps8
  go_wp2_with fail
  refine HLt.out.mono ?_
  rintro e w' ⟨rfl, hw⟩
  subst hw
  by_cases hL : x0.length ≤ 400
  · rw [decide_eq_true hL]
    clear hL HLt
    go_wp2_with fail
    refine HRo.out.mono ?_
    rintro e w1 ⟨rfl, hd1, hb1⟩
    have HN := Lib.hid (dice_nodes 4 (by decide) w'.heap.size 4 w1 (by decide) (by decide) hd1)
    have K1 := Lib.hid (show Kd w' w1 from ⟨hb1, hd1⟩)
    have R1 := Lib.hid (show Km w' w1 A1 x1 from SeesP.imp (SeesP.keep (p := (· < w'.heap.size)) HX.out.1 fun q hq => grown_cell (g := w'.heap.size) (grown_below hb1) hq (Nat.ne_of_lt hq)) fun b hb => ⟨Nat.lt_of_lt_of_le hb hb1.size, Nat.ne_of_lt hb⟩)
    have HM := Lib.hid HX.out.2
    clear HRo hd1 hb1 HX
    go_wp2_with fail
    refine HN.out.mono ?_
    rintro e w2 ⟨f, Af, cf, rfl, hfg, hfl, hfs, hg2, hd2⟩
    have hsz : f.size ≤ 768 := by have := F.gd_size hfg; omega
    have K2 := Lib.hid (K1.out.gr hg2 hd2)
    have R2 := Lib.hid (R1.out.gr hg2)
    have HP := Lib.hid (ref_plain f Af cf w2 (by omega) (F.gd_ok hfg) (F.gd_sm hfg) (hfs.imp fun b hb => hb.2))
    clear HN hfg hfl hfs hg2 hd2 K1 R1
    go_wp2_with fail
    refine HP.out.mono ?_
    rintro e w3 ⟨A3, c3, rfl, s3, hb3, hc3, hn3⟩
    have hlp : (encB f).length ≤ 4096 := encB_le f
    obtain ⟨l3, hl3⟩ : ∃ l, l = encB f := ⟨_, rfl⟩
    rw [← hl3] at s3 hc3 hlp
    rw [← hl3]
    have K3 := Lib.hid (K2.out.on hb3)
    have R3 := Lib.hid (R2.out.gr (grown_below hb3))
    have HS := Lib.hid (dice_spoil w'.heap.size l3 A3 c3 w3 (by omega) hn3 (s3.imp fun b hb => hb.2) K3.out.2)
    clear HP s3 hb3 hn3 hl3 K2 R2
    go_wp2_with fail
    refine HS.out.mono ?_
    rintro e w4 ⟨l4, A4, c4, rfl, hc4, hn4, s4, hg4, hd4⟩
    have B4 := Lib.hid (Km.new K3.out s4)
    have K4 := Lib.hid (K3.out.gr hg4 hd4)
    have R4 := Lib.hid (R3.out.gr hg4)
    have HO := Lib.hid (dice_one w'.heap.size 3 w4 (by decide) (by decide) hd4)
    clear HS s4 hg4 hd4 K3 R3
    go_wp2_with fail
    refine HO.out.mono ?_
    rintro e w5 ⟨q, rfl, hg5, hd5⟩
    have B5 := Lib.hid (B4.out.gr hg5)
    have K5 := Lib.hid (K4.out.gr hg5 hd5)
    have R5 := Lib.hid (R4.out.gr hg5)
    clear HO hg5 hd5 K4 R4 B4
    cases q with
    | false =>
      have B := Lib.hid (show Km w' w5 A4 l4 ∧ l4.length ≤ c4 ∧ l4.length ≤ 140737488351232 from ⟨B5.out, hc4, by omega⟩)
      clear B5 R5 HM
      have hp1 := tlv_parse true l4 A4 c4 w5 B.out.2.2 B.out.2.1 (B.out.1.imp fun b hb => hb.1)
      rcases hpt : parse true l4 with er | ⟨f2, n2⟩
      · rw [hpt] at hp1
        have HP1 := Lib.hid hp1
        clear hp1 hpt
        go_wp2_with fail
        refine HP1.out.mono ?_
        rintro e w6 ⟨hb6, rfl, hne⟩
        have d1 : (er != 0) = true := by simpa using hne
        have K6 := Lib.hid (K5.out.on hb6)
        clear HP1 hb6 hne B K5
        go_wp2_with fail
        refine (awake _).mono ?_
        rintro e w7 ⟨rfl, hb7⟩
        have HB7 := Lib.hid (below_on K6.out.1 hb7)
        clear hb7
        go_wp2_with fail
        go_ret
        exact ⟨rfl, HB7.out⟩
      · obtain ⟨hE, hB, hpf, hok, hsz2, hl2⟩ := strict_back hpt
        rw [hpt] at hp1
        have HP1 := Lib.hid hp1
        have HF := Lib.hid (show encE f2 = 0 ∧ encB f2 = l4 ∧ parse false l4 = .ok (f2, f2.size) ∧ f2.ok from ⟨hE, hB, hpf, hok⟩)
        clear hp1 hpt hE hB hpf hok
        go_wp2_with fail
        refine HP1.out.mono ?_
        rintro e w6 ⟨hb6, A6, c6, rfl, s6⟩
        have K6 := Lib.hid (K5.out.on hb6)
        have B6 := Lib.hid (B.out.1.gr (grown_below hb6))
        have X6 := Lib.hid (Fp.new K5.out s6)
        have he := tlv_encode_n f2 A6 c6 w6 (by omega) HF.out.2.2.2 (X6.out.imp fun b hb => hb.1)
        rw [HF.out.1, HF.out.2.1] at he
        have HE := Lib.hid he
        clear HP1 hb6 s6 K5 he
        go_wp2_with fail
        refine HE.out.mono ?_
        rintro e w7 ⟨A7, c7, rfl, s7, hb7, hc7⟩
        have K7 := Lib.hid (K6.out.on hb7)
        have B7 := Lib.hid (B6.out.gr (grown_below hb7))
        have X7 := Lib.hid (X6.out.gr (grown_below hb7))
        have C7 := Lib.hid (Km.new K6.out s7)
        have hp2 := tlv_parse false l4 A4 c4 w7 B.out.2.2 B.out.2.1 (B7.out.imp fun b hb => hb.1)
        rw [HF.out.2.2.1] at hp2
        have HP2 := Lib.hid hp2
        clear HE hb7 s7 hc7 K6 B6 X6 hp2
        go_wp2_with fail
        refine HP2.out.mono ?_
        rintro e w8 ⟨hb8, A8, c8, rfl, s8⟩
        have K8 := Lib.hid (K7.out.on hb8)
        have B8 := Lib.hid (B7.out.gr (grown_below hb8))
        have X8 := Lib.hid (X7.out.gr (grown_below hb8))
        have C8 := Lib.hid (C7.out.gr (grown_below hb8))
        have Y8 := Lib.hid (Fp.new K7.out s8)
        clear HP2 hb8 s8 K7 B7 X7 C7
        go_wp2_with fail
        refine (awake _).mono ?_
        rintro e w9 ⟨rfl, hb9⟩
        have K9 := Lib.hid (K8.out.on hb9)
        have X9 := Lib.hid (X8.out.gr (grown_below hb9))
        have Y9 := Lib.hid (Y8.out.gr (grown_below hb9))
        have B9 := Lib.hid (B8.out.gr (grown_below hb9))
        have C9 := Lib.hid (C8.out.gr (grown_below hb9))
        clear hb9 K8 X8 Y8 B8 C8
        obtain ⟨sx, hsx⟩ : ∃ sx, sx = S l4 := ⟨_, rfl⟩
        have v1 : (convert 27 9 (.slice A7 l4.length c7)).run Try.prog w9 = .ok (.string sx) w9 := by rw [hsx]; exact conv_at C9.out c7
        have v2 : (convert 27 9 (.slice A4 l4.length c4)).run Try.prog w9 = .ok (.string sx) w9 := by rw [hsx]; exact conv_at B9.out c4
        clear hsx
        go_wp2_with fail
        refine (same_yes 1000 (by decide) f2 A6 A8 c6 c8 _ _ _ (by omega) HF.out.2.2.2 X9.out Y9.out).mono ?_
        rintro e wA ⟨rfl, q1, hq1⟩
        have HQ := Lib.hid hq1
        clear hq1
        go_wp2_with fail
        go_ret
        refine ⟨rfl, ?_⟩
        rw [HQ.out]
        exact below_dn K9.out.1 _
    | true =>
      have B := Lib.hid (show Km w' w5 A1 x1 ∧ x1.length ≤ c1 ∧ x1.length ≤ 140737488351232 from ⟨R5.out, HM.out.1, HM.out.2⟩)
      clear B5 R5 HM
      have hp1 := tlv_parse true x1 A1 c1 w5 B.out.2.2 B.out.2.1 (B.out.1.imp fun b hb => hb.1)
      rcases hpt : parse true x1 with er | ⟨f2, n2⟩
      · rw [hpt] at hp1
        have HP1 := Lib.hid hp1
        clear hp1 hpt
        go_wp2_with fail
        refine HP1.out.mono ?_
        rintro e w6 ⟨hb6, rfl, hne⟩
        have d1 : (er != 0) = true := by simpa using hne
        have K6 := Lib.hid (K5.out.on hb6)
        clear HP1 hb6 hne B K5
        go_wp2_with fail
        refine (awake _).mono ?_
        rintro e w7 ⟨rfl, hb7⟩
        have HB7 := Lib.hid (below_on K6.out.1 hb7)
        clear hb7
        go_wp2_with fail
        go_ret
        exact ⟨rfl, HB7.out⟩
      · obtain ⟨hE, hB, hpf, hok, hsz2, hl2⟩ := strict_back hpt
        rw [hpt] at hp1
        have HP1 := Lib.hid hp1
        have HF := Lib.hid (show encE f2 = 0 ∧ encB f2 = x1 ∧ parse false x1 = .ok (f2, f2.size) ∧ f2.ok from ⟨hE, hB, hpf, hok⟩)
        clear hp1 hpt hE hB hpf hok
        go_wp2_with fail
        refine HP1.out.mono ?_
        rintro e w6 ⟨hb6, A6, c6, rfl, s6⟩
        have K6 := Lib.hid (K5.out.on hb6)
        have B6 := Lib.hid (B.out.1.gr (grown_below hb6))
        have X6 := Lib.hid (Fp.new K5.out s6)
        have he := tlv_encode_n f2 A6 c6 w6 (by omega) HF.out.2.2.2 (X6.out.imp fun b hb => hb.1)
        rw [HF.out.1, HF.out.2.1] at he
        have HE := Lib.hid he
        clear HP1 hb6 s6 K5 he
        go_wp2_with fail
        refine HE.out.mono ?_
        rintro e w7 ⟨A7, c7, rfl, s7, hb7, hc7⟩
        have K7 := Lib.hid (K6.out.on hb7)
        have B7 := Lib.hid (B6.out.gr (grown_below hb7))
        have X7 := Lib.hid (X6.out.gr (grown_below hb7))
        have C7 := Lib.hid (Km.new K6.out s7)
        have hp2 := tlv_parse false x1 A1 c1 w7 B.out.2.2 B.out.2.1 (B7.out.imp fun b hb => hb.1)
        rw [HF.out.2.2.1] at hp2
        have HP2 := Lib.hid hp2
        clear HE hb7 s7 hc7 K6 B6 X6 hp2
        go_wp2_with fail
        refine HP2.out.mono ?_
        rintro e w8 ⟨hb8, A8, c8, rfl, s8⟩
        have K8 := Lib.hid (K7.out.on hb8)
        have B8 := Lib.hid (B7.out.gr (grown_below hb8))
        have X8 := Lib.hid (X7.out.gr (grown_below hb8))
        have C8 := Lib.hid (C7.out.gr (grown_below hb8))
        have Y8 := Lib.hid (Fp.new K7.out s8)
        clear HP2 hb8 s8 K7 B7 X7 C7
        go_wp2_with fail
        refine (awake _).mono ?_
        rintro e w9 ⟨rfl, hb9⟩
        have K9 := Lib.hid (K8.out.on hb9)
        have X9 := Lib.hid (X8.out.gr (grown_below hb9))
        have Y9 := Lib.hid (Y8.out.gr (grown_below hb9))
        have B9 := Lib.hid (B8.out.gr (grown_below hb9))
        have C9 := Lib.hid (C8.out.gr (grown_below hb9))
        clear hb9 K8 X8 Y8 B8 C8
        obtain ⟨sx, hsx⟩ : ∃ sx, sx = S x1 := ⟨_, rfl⟩
        have v1 : (convert 27 9 (.slice A7 x1.length c7)).run Try.prog w9 = .ok (.string sx) w9 := by rw [hsx]; exact conv_at C9.out c7
        have v2 : (convert 27 9 (.slice A1 x1.length c1)).run Try.prog w9 = .ok (.string sx) w9 := by rw [hsx]; exact conv_at B9.out c1
        clear hsx
        go_wp2_with fail
        refine (same_yes 1000 (by decide) f2 A6 A8 c6 c8 _ _ _ (by omega) HF.out.2.2.2 X9.out Y9.out).mono ?_
        rintro e wA ⟨rfl, q1, hq1⟩
        have HQ := Lib.hid hq1
        clear hq1
        go_wp2_with fail
        go_ret
        refine ⟨rfl, ?_⟩
        rw [HQ.out]
        exact below_dn K9.out.1 _
  · rw [decide_eq_false hL]
    clear hL HLt HRo HX
    go_wp2_with fail
    refine (awake _).mono ?_
    rintro e w2 ⟨rfl, hb⟩
    have HB := Lib.hid hb
    clear hb
    go_wp2_with fail
    go_ret
    exact ⟨rfl, HB.out⟩

/-! ### the given statement, out of the walk -/
set_option maxRecDepth 100000 in
theorem lifted (os : Os) (started : os.Started) (H : Type) (enc : TypeId × Value → H) :
    ReturnsInHanded {} Try.checked os 8 .any (Rows.tlvStrictSpec.pre6 enc Try.prog Try.f8 Rows.tlvStrictRow.domain false) (Rows.tlvStrictSpec.post enc Try.prog Try.f8 false true false false) := by
  refine returnsInHanded_of_change_sized (C := Try.checked) own started (by kernel_rfl) Try.func8
    (ChangeSpec.witness6 (enc := enc) (C := Try.checked) false ⟨#[], #[.slice none 0 0, .slice none 0 0], []⟩ 8 (by kernel_rfl) (by kernel_rfl) (by kernel_rfl) (by kernel_rfl)) ?_
  intro W base args ds gs before hval0 hW hcnd hsz0 _
  have hsz : (DataW.weightsEach Try.prog (Try.f8.params.toList ++ Rows.tlvStrictSpec.plain.varTypes Try.prog) (ds ++ gs)).all (· ≤ reachBytes) = true := hsz0
  have hval : ∀ (j : Nat) t v, Try.f8.params[j]? = some t → args[j]? = some v → Value.okWide Try.prog W .any base t v := hval0
  have hW' := hW
  obtain ⟨p, q, hA0, hV, rfl, hfz, hnd⟩ := hW
  have hA : DataW.TrodAll enc Try.prog W 0 (fun _ => true) true Try.f8.params.toList args.toList ds p := hA0
  rw [Try.params8] at hA hval hsz
  obtain ⟨v0, vs0, d0, ds0, p0, q0, hargs, rfl, rfl, h0, r0⟩ := trodAll_cons hA
  obtain ⟨v1, vs1, d1, ds1, p1, q1, rfl, rfl, rfl, h1, r1⟩ := trodAll_cons r0
  obtain ⟨rfl, rfl, rfl⟩ := trodAll_nil r1
  obtain rfl : args = #[v0, v1] := by cases args; simp_all
  obtain ⟨rfl, rfl⟩ := trodVars_none hV
  obtain ⟨a0, len0, cap0, rfl⟩ := okWide_slice Try.underlying25 (hval 0 25 v0 rfl rfl)
  have lt0 : ∀ x ∈ p0, x.block < W.heap.size := by obtain ⟨m, hm⟩ := h0; exact DataW.trod_lt m _ _ _ hm
  obtain ⟨x0, rfl, see0, rng0, hl0, hc0⟩ := open_i64s h0 lt0
  have m0 := reach_i64s hsz (j := 0) rfl rfl hl0 hc0
  obtain ⟨a1, len1, cap1, rfl⟩ := okWide_slice Try.underlying27 (hval 1 27 v1 rfl rfl)
  have lt1 : ∀ x ∈ p1, x.block < W.heap.size := by obtain ⟨m, hm⟩ := h1; exact DataW.trod_lt m _ _ _ hm
  obtain ⟨x1, rfl, see1, hl1, hc1⟩ := open_u8s h1 lt1
  have m1 := reach_u8s hsz (j := 1) rfl rfl hl1 hc1
  clear hA0 hval0
  refine (walk a0 cap0 x0 a1 cap1 x1 W see0 m0 rng0 see1 m1 hl1).mono fun e W' ⟨he, bel⟩ => ?_
  subst he
  exact ⟨_, rfl, _, _, _, [], _, [], hW', trodAll_mk1 (shut_bool Try.underlying4 _), (trodAll_cons_mk (Below.trod laidOut (by kernel_rfl) (of_decide_eq_true (by kernel_rfl)) h0 bel lt0) (trodAll_cons_mk (Below.trod laidOut (by kernel_rfl) (of_decide_eq_true (by kernel_rfl)) h1 bel lt1) trodAll_mk0)), rfl, bel.frame _, fun h => by cases h⟩

theorem proved : Rows.TlvStrictSaid :=
  OpenClaim.holds_of_wide 8 Try.f8 rfl rfl rfl rfl rfl rfl rfl ⟨rfl, rfl, rfl, rfl, rfl⟩ rfl rfl rfl rfl rfl (by kernel_rfl) Try.func8 (by kernel_rfl)
    (of_decide_eq_true (by kernel_rfl)) (by unfold Func.isWrapper; first | (rw [if_pos (by decide +kernel)]; kernel_rfl) | (rw [if_neg (by decide +kernel)]; exact ⟨rfl, rfl⟩))
    (fun os started H enc _ => lifted os started H enc)
end Go.Proofs.Ytofhillhpedifaa.tlvStrict
