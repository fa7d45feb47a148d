/-
  What is proved here: the given statement TlvReadsMadeSaid, for every list of numbers; no condition.
-/
import Derived.Test.YtipmmclahngabaaOpenI
import Derived.Test.YtipmmclahngabaaRoll
import Derived.Test.YtipmmclahngabaaOdd
import Derived.Test.YtipmmclahngabaaEnl
import Derived.Test.YtipmmclahngabaaRPa
namespace Go.Proofs.Ytipmmclahngabaa.tlvReadsMade
open Go.ChangeShapes Go.WideShapes Go.ChangeAt Go.RowKit
open Go.ChangeMaps (open_string shut_string)
set_option linter.unusedVariables false

theorem bs_on {w w' : World} {A : Option Addr} {l : List UInt8} (h : SeesP w (· < w.heap.size) A (Us l)) (hb : Below w.heap.size w w') : SeesP w' (· < w'.heap.size) A (Us l) :=
  (SeesP.keep h fun q hq => hb.cell hq).imp fun b h2 => Nat.lt_of_lt_of_le h2 hb.size
theorem fs_on {w w' : World} {A : Option Addr} {f : F} (h : SeesF w (· < w.heap.size) A f) (hb : Below w.heap.size w w') : SeesF w' (· < w'.heap.size) A f :=
  (SeesF.keep h fun q hq => hb.cell hq).imp fun b h2 => Nat.lt_of_lt_of_le h2 hb.size
/-- the dice and what was made so far -/
def Ds (w wi : World) : Prop := Below w.heap.size w wi ∧ DiceOk wi w.heap.size
theorem Ds.gr {w wi wj : World} (h : Ds w wi) (hg : wi.grownBy wj (some w.heap.size)) (hd : DiceOk wj w.heap.size) : Ds w wj := ⟨below_row h.1 hg, hd⟩
theorem Ds.on {w wi wj : World} (h : Ds w wi) (hb : Below wi.heap.size wi wj) : Ds w wj := ⟨below_on h.1 hb, h.2.below hb⟩
def Fp (w wi : World) (A : Option Addr) (f : F) : Prop := SeesF wi (fun b => b < wi.heap.size ∧ b ≠ w.heap.size) A f
def Km (w wi : World) (A : Option Addr) (l : List UInt8) : Prop := SeesP wi (fun b => b < wi.heap.size ∧ b ≠ w.heap.size) A (Us l)
theorem Fp.gr {w wi wj : World} {A : Option Addr} {f : F} (h : Fp w wi A f) (hg : wi.grownBy wj (some w.heap.size)) : Fp w wj A f :=
  (SeesF.keep h fun q hq => grown_cell hg hq.1 hq.2).imp fun b hb => ⟨Nat.lt_of_lt_of_le hb.1 hg.size, hb.2⟩
theorem Km.gr {w wi wj : World} {A : Option Addr} {l : List UInt8} (h : Km w wi A l) (hg : wi.grownBy wj (some w.heap.size)) : Km w wj A l :=
  (SeesP.keep h fun q hq => grown_cell hg hq.1 hq.2).imp fun b hb => ⟨Nat.lt_of_lt_of_le hb.1 hg.size, hb.2⟩
theorem path_sees {w : World} {a b : Nat} : SeesP (w.alloc (.cells #[.int .i64 (a : Int), .int .i64 (b : Int)] 3)) (· < (w.alloc (.cells #[.int .i64 (a : Int), .int .i64 (b : Int)] 3)).heap.size) (some ⟨w.heap.size, 0, none⟩) ([(a : Int), (b : Int)].map (Value.int .i64)) :=
  .inr ⟨_, 0, rfl, by simp, fun j hj => by
    rw [Nat.zero_add, cell_of_row _ w.heap.size j _ _ (0, 0) (heap_alloc_new w _)]
    simp⟩
/-- the bytes that are to be read -/
def Rd3 (w wi : World) (A : Option Addr) (c : Nat) (b : List UInt8) : Prop := Ds w wi ∧ Km w wi A b ∧ (A = none → c = 0) ∧ b.length ≤ c

set_option maxRecDepth 20000 in
set_option maxHeartbeats 8000000 in
theorem walk (A0 : Option Addr) (c0 : Nat) (x0 : List Int) (st : Bool) (w : World) (h0 : SeesP w (· < w.heap.size) A0 (x0.map (Value.int .i64))) (m0 : x0.length ≤ 140737488351232) (r0 : ∀ y ∈ x0, -9223372036854775808 ≤ y ∧ y ≤ 9223372036854775807) :
    Calls Try.prog 6 #[.slice A0 x0.length c0, .bool st] w fun e w' => e = .returned (.bool true) ∧ Below w.heap.size w w' := by
  have HLt := Lib.hid (made_light A0 x0.length c0 w m0)
  have HRo := Lib.hid (made_roll A0 c0 x0 w m0 r0 h0)
  clear h0 r0
  go_enter Try.func6, Try.ntmps6
  go_wp2_with fail
  refine HLt.out.mono ?_
  rintro e w' ⟨rfl, hw⟩
  subst hw
  by_cases hL : x0.length ≤ 400
  · rw [decide_eq_true hL]
    clear hL HLt
    go_wp2_with fail
    refine HRo.out.mono ?_
    rintro e w1 ⟨rfl, hd1, hb1⟩
    have HN := Lib.hid (dice_nodes 5 (by decide) w'.heap.size 5 w1 (by decide) (by decide) hd1)
    have HB := Lib.hid (show Ds w' w1 ∧ w'.heap.size < w1.heap.size from ⟨⟨hb1, hd1⟩, hd1.lt⟩)
    clear HRo hd1 hb1
    go_wp2_with fail
    refine HN.out.mono ?_
    rintro e w2 ⟨f, Af, cf, rfl, hfg, hfl, hfs, hg2, hd2⟩
    have hsz : f.size ≤ 363 := F.gd_five hfg hfl
    have K2 := Lib.hid (show Ds w' w2 ∧ Fp w' w2 Af f ∧ f.gd 5 from ⟨HB.out.1.gr hg2 hd2, hfs.imp fun b hb => ⟨hb.2, by have := hb.1; have := HB.out.2; omega⟩, hfg⟩)
    have HO := Lib.hid (dice_one w'.heap.size 3 w2 (by decide) (by decide) hd2)
    clear HN HB hfg hfl hfs hg2 hd2
    go_upto_if 25 with (go_at_call 31; refine HO.out.mono ?_; rintro e w3 ⟨q, rfl, hg3, hd3⟩; have G3 := Lib.hid (show Ds w' w3 ∧ Fp w' w3 Af f from ⟨K2.out.1.gr hg3 hd3, K2.out.2.1.gr hg3⟩); clear hg3 hd3)
    clear HO
    go_cut [6] from 16 to 90 (fun v6 wx => ∃ (l : F) (A : Option Addr) (c : Nat), v6 = .slice A l.len c ∧ l.size ≤ 364 ∧ Hid (Ds w' wx ∧ Fp w' wx A l ∧ l.od))
    case first =>
      cases q
      · go_wp2_with fail
        go_meet
        exact ⟨f, Af, cf, rfl, by omega, Lib.hid ⟨G3.out.1, G3.out.2, F.gd_od K2.out.2.2⟩⟩
      · have HX := Lib.hid (dice_odd 400 (by decide) f 5 Af cf w'.heap.size w3 (fun b => b < w3.heap.size ∧ b ≠ w'.heap.size) (by omega) K2.out.2.2 (fun b h => h) G3.out.2 G3.out.1.2)
        go_wp2_with fail
        refine HX.out.mono ?_
        rintro e w4 ⟨l, A, c, rfl, hod, hls, hs4, hg4, hd4⟩
        have HF := Lib.hid (show Ds w' w4 ∧ Fp w' w4 A l ∧ l.od from ⟨G3.out.1.gr hg4 hd4, hs4.imp fun b hb => by
          rcases hb with hb | hb
          · exact ⟨Nat.lt_of_lt_of_le hb.1 hg4.size, hb.2⟩
          · exact ⟨hb.2, by have := hb.1; have := G3.out.1.2.lt; omega⟩, hod⟩)
        clear hod hs4 hg4 hd4 HX G3
        go_wp2_with fail
        go_meet
        exact ⟨l, A, c, rfl, by omega, HF⟩
    case rest =>
      obtain ⟨l, A, c, rfl, hls, HC⟩ := hcut
      clear G3 K2 hsz
      have HT := Lib.hid (fun (c : Bool) (u : World) (h : DiceOk u w'.heap.size) => dice_tag w'.heap.size c u h)
      go_wp2_with fail
      refine (HT.out true _ HC.out.1.2).mono ?_
      rintro e w5 ⟨t1, rfl, ht1, _, hg5, hd5⟩
      have K5 := Lib.hid (show Ds w' w5 ∧ Fp w' w5 A l ∧ l.od from ⟨HC.out.1.gr hg5 hd5, HC.out.2.1.gr hg5, HC.out.2.2⟩)
      clear hg5 hd5 HC ht1
      go_wp2_with fail
      refine (HT.out false _ K5.out.1.2).mono ?_
      rintro e w6 ⟨t2, rfl, ht2, _, hg6, hd6⟩
      have K6 := Lib.hid (show Ds w' w6 ∧ Fp w' w6 A l ∧ l.od from ⟨K5.out.1.gr hg6 hd6, K5.out.2.1.gr hg6, K5.out.2.2⟩)
      clear hg6 hd6 K5 ht2 HT
      go_wp2_with fail
      have hba : Below w6.heap.size w6 (w6.alloc (.cells #[.int .i64 (t1 : Int), .int .i64 (t2 : Int)] 3)) := (Below.refl _ _).alloc (Nat.le_refl _) _
      have hfa : Fp w' (w6.alloc (.cells #[.int .i64 (t1 : Int), .int .i64 (t2 : Int)] 3)) A l := K6.out.2.1.gr (grown_below hba)
      have HE := Lib.hid (law_encodes [(t1 : Int), (t2 : Int)] l A (some ⟨w6.heap.size, 0, none⟩) c 2 _ (F.od_ok K6.out.2.2) (by omega) (by simp) (by simp) ((hfa.imp fun b hb => hb.1).small (F.od_sm K6.out.2.2)) path_sees)
      clear hba hfa
      refine HE.out.mono ?_
      rintro e w7 ⟨rfl, hb7⟩
      have K7 := Lib.hid (show Ds w' w7 ∧ Fp w' w7 A l ∧ l.od from by
        have hb : Below w6.heap.size w6 w7 := below_on ((Below.refl _ _).alloc (Nat.le_refl _) _) hb7
        exact ⟨K6.out.1.on hb, K6.out.2.1.gr (grown_below hb), K6.out.2.2⟩)
      clear HE K6 hb7
      have HP := Lib.hid (ref_plain l A c w7 (by omega) (F.od_ok K7.out.2.2) (F.od_sm K7.out.2.2) (K7.out.2.1.imp fun b hb => hb.1))
      go_wp2_with fail
      refine HP.out.mono ?_
      rintro e w8 ⟨A8, c8, rfl, s8, hb8, hc8, hn8⟩
      have hl8 : (encB l).length ≤ 4096 := encB_max l
      have K8 := Lib.hid (show Ds w' w8 ∧ Fp w' w8 A l ∧ l.od ∧ Rd3 w' w8 A8 c8 (encB l) from by
        have hk : Ds w' w8 := K7.out.1.on hb8
        exact ⟨hk, K7.out.2.1.gr (grown_below hb8), K7.out.2.2, hk, s8.imp fun b hb => ⟨hb.2, by have := hb.1; have := K7.out.1.2.lt; omega⟩, hn8, hc8⟩)
      have HO := Lib.hid (dice_one w'.heap.size 2 w8 (by decide) (by decide) K8.out.1.2)
      clear HP K7 s8 hb8 hc8 hn8
      go_upto_if 40 with (go_at_call 31; refine HO.out.mono ?_; rintro e w9 ⟨q, rfl, hg9, hd9⟩; have G9 := Lib.hid (show Ds w' w9 ∧ Fp w' w9 A l ∧ l.od ∧ Rd3 w' w9 A8 c8 (encB l) from ⟨K8.out.1.gr hg9 hd9, K8.out.2.1.gr hg9, K8.out.2.2.1, K8.out.1.gr hg9 hd9, Km.gr K8.out.2.2.2.2.1 hg9, K8.out.2.2.2.2.2⟩); clear hg9 hd9)
      clear HO K8
      go_cut [7] from 16 to 90 (fun v7 wx => ∃ (b : List UInt8) (A : Option Addr) (c : Nat), v7 = .slice A b.length c ∧ b.length ≤ 150000 ∧ Hid (Rd3 w' wx A c b))
      case first =>
        cases q
        · go_wp2_with fail
          go_meet
          exact ⟨encB l, A8, c8, rfl, by omega, Lib.hid G9.out.2.2.2⟩
        · have HX := Lib.hid (made_los 400 (by decide) l A c w'.heap.size w9 (by omega) G9.out.2.2.1 G9.out.2.1 G9.out.1.2)
          clear hl8
          go_wp2_with fail
          refine HX.out.mono ?_
          rintro e w10 ⟨b, Ab, cb, rfl, hbc, hbn, hbs, hbl, hg10, hd10⟩
          have HF := Lib.hid (show Rd3 w' w10 Ab cb b from ⟨G9.out.1.gr hg10 hd10, hbs.imp fun q hq => ⟨hq.2, by have := hq.1; have := G9.out.1.2.lt; omega⟩, hbn, hbc⟩)
          clear hbc hbn hbs hg10 hd10 HX G9
          go_wp2_with fail
          go_meet
          exact ⟨b, Ab, cb, rfl, by omega, HF⟩
      case rest =>
        obtain ⟨b, Ab, cb, rfl, hbl, HR⟩ := hcut
        clear G9 hl8 hls
        have HO := Lib.hid (fun (u : World) (h : DiceOk u w'.heap.size) => dice_one w'.heap.size 2 u (by decide) (by decide) h)
        go_upto_if 45 with (go_at_call 31; refine (HO.out _ HR.out.1.2).mono ?_; rintro e w11 ⟨q, rfl, hg11, hd11⟩; have G11 := Lib.hid (show Rd3 w' w11 Ab cb b from ⟨HR.out.1.gr hg11 hd11, HR.out.2.1.gr hg11, HR.out.2.2⟩); clear hg11 hd11)
        clear HO HR
        go_cut [7] from 16 to 90 (fun v7 wx => ∃ (b : List UInt8) (A : Option Addr) (c : Nat), v7 = .slice A b.length c ∧ b.length ≤ 150001 ∧ b.length ≤ c ∧ Hid (Below w'.heap.size w' wx ∧ SeesP wx (· < wx.heap.size) A (Us b)))
        case first =>
          cases q
          · go_wp2_with fail
            go_meet
            exact ⟨b, Ab, cb, rfl, by omega, G11.out.2.2.2, Lib.hid ⟨G11.out.1.1, G11.out.2.1.imp fun b hb => hb.1⟩⟩
          · have HX := Lib.hid (dice_spoil w'.heap.size b Ab cb w11 (by omega) G11.out.2.2.1 (G11.out.2.1.imp fun b hb => hb.1) G11.out.1.2)
            go_wp2_with fail
            refine HX.out.mono ?_
            rintro e w12 ⟨b2, A2, c2, rfl, hb2c, hb2l, hb2s, hg12, hd12⟩
            have HF := Lib.hid (show Below w'.heap.size w' w12 ∧ SeesP w12 (· < w12.heap.size) A2 (Us b2) from ⟨below_row G11.out.1.1 hg12, hb2s.imp fun q hq => hq.2⟩)
            clear hb2s hg12 hd12 HX G11
            go_wp2_with fail
            go_meet
            exact ⟨b2, A2, c2, rfl, by omega, hb2c, HF⟩
        case rest =>
          obtain ⟨x1, A1, c1, rfl, hx1, hxc, HR⟩ := hcut
          clear G11 hbl
          have HP := Lib.hid (fun (u : World) (h : SeesP u (· < u.heap.size) A1 (Us x1)) => tlv_parse st x1 A1 c1 u (by omega) hxc h)
          obtain ⟨r, hr⟩ : ∃ r, r = parse st x1 := ⟨_, rfl⟩
          rw [← hr] at HP
          have HRr := Lib.hid hr
          obtain ⟨cb2, hcb⟩ : ∃ n, n = canB (parse false x1) := ⟨_, rfl⟩
          obtain ⟨ce, hce⟩ : ∃ n, n = canE (parse false x1) := ⟨_, rfl⟩
          have HQ := Lib.hid (show _ ∧ _ from ⟨hcb, hce⟩)
          clear hr hcb hce
          go_wp2_with fail
          refine (HP.out _ HR.out.2).mono ?_
          rintro e v1 ⟨hb1, hr1⟩
          have B1 := Lib.hid (show Below w'.heap.size w' v1 ∧ SeesP v1 (· < v1.heap.size) A1 (Us x1) from ⟨below_on HR.out.1 hb1, bs_on HR.out.2 hb1⟩)
          have hp2 := ref_parse st x1 A1 c1 v1 (by omega) hxc B1.out.2
          rw [← HRr.out] at hp2
          have HP2 := Lib.hid hp2
          clear HP HR hb1 hp2
          cases r with
          | error x =>
            obtain ⟨rfl, hx⟩ := hr1
            clear hx
            go_wp2_with fail
            refine HP2.out.mono ?_
            rintro e v2 ⟨hb2, hr2⟩
            obtain ⟨rfl, _⟩ := hr2
            have B2 := Lib.hid (show Below w'.heap.size w' v2 ∧ SeesP v2 (· < v2.heap.size) A1 (Us x1) from ⟨below_on B1.out.1 hb2, bs_on B1.out.2 hb2⟩)
            have hs5 := tlv_canonical x1 A1 c1 v2 (by omega) hxc B2.out.2
            rw [← HQ.out.1, ← HQ.out.2] at hs5
            have HS5 := Lib.hid hs5
            clear HP2 B1 hb2 hs5 HRr
            go_wp2_with fail
            refine HS5.out.mono ?_
            rintro e v5 ⟨A5, c5, rfl, s5, hb5, hc5⟩
            have B5 := Lib.hid (show Below w'.heap.size w' v5 ∧ SeesP v5 (· < v5.heap.size) A1 (Us x1) ∧ SeesP v5 (· < v5.heap.size) A5 (Us cb2) from ⟨below_on B2.out.1 hb5, bs_on B2.out.2 hb5, s5.imp fun b hb => hb.2⟩)
            have hs6 := ref_canonical x1 A1 c1 v5 (by omega) hxc B5.out.2.1
            rw [← HQ.out.1, ← HQ.out.2] at hs6
            have HS6 := Lib.hid hs6
            clear HS5 B2 hb5 hs6 s5 hc5
            go_wp2_with fail
            refine HS6.out.mono ?_
            rintro e v6 ⟨A6, c6, rfl, s6, hb6, hc6⟩
            have B6 := Lib.hid (show Below w'.heap.size w' v6 ∧ SeesP v6 (· < v6.heap.size) A5 (Us cb2) ∧ SeesP v6 (· < v6.heap.size) A6 (Us cb2) from ⟨below_on B5.out.1 hb6, bs_on B5.out.2.2 hb6, s6.imp fun b hb => hb.2⟩)
            clear HS6 B5 hb6 s6 hc6 HQ
            go_wp2_with fail
            refine (same_yes 1000 (by decide) .nil none none 0 0 v6 (fun _ => True) (fun _ => True) (by decide) trivial SeesF.nil_ SeesF.nil_).mono ?_
            rintro e v8 ⟨rfl, q8, hq8⟩
            have HQ8 := Lib.hid hq8
            obtain ⟨sx, hsx⟩ : ∃ sx, sx = S cb2 := ⟨_, rfl⟩
            have y1 : (convert 27 9 (.slice A5 cb2.length c5)).run Try.prog v8 = .ok (.string sx) v8 := by rw [hq8, hsx]; exact conv_drew B6.out.2.1 c5 _
            have y2 : (convert 27 9 (.slice A6 cb2.length c6)).run Try.prog v8 = .ok (.string sx) v8 := by rw [hq8, hsx]; exact conv_drew B6.out.2.2 c6 _
            clear hq8 hsx
            go_wp2_with fail
            go_ret
            refine ⟨rfl, ?_⟩
            rw [HQ8.out]
            exact below_dn B6.out.1 _
          | ok q =>
            obtain ⟨f3, n3⟩ := q; obtain ⟨A3, c3, rfl, s3⟩ := hr1
            have X1 := Lib.hid (show SeesF v1 (· < v1.heap.size) A3 f3 from s3.imp fun b hb => hb.2); obtain ⟨hfit, hsz3⟩ := parse_fits HRr.out.symm; have HOk := Lib.hid (F.fit_ok hfit); clear s3 hfit
            go_wp2_with fail
            refine HP2.out.mono ?_
            rintro e v2 ⟨hb2, hr2⟩
            obtain ⟨A4, c4, rfl, s4⟩ := hr2
            have B2 := Lib.hid (show Below w'.heap.size w' v2 ∧ SeesP v2 (· < v2.heap.size) A1 (Us x1) from ⟨below_on B1.out.1 hb2, bs_on B1.out.2 hb2⟩)
            have X2 := Lib.hid (show SeesF v2 (· < v2.heap.size) A3 f3 ∧ SeesF v2 (· < v2.heap.size) A4 f3 from ⟨fs_on X1.out hb2, s4.imp fun b hb => hb.2⟩); clear X1 s4
            have hs5 := tlv_canonical x1 A1 c1 v2 (by omega) hxc B2.out.2
            rw [← HQ.out.1, ← HQ.out.2] at hs5
            have HS5 := Lib.hid hs5
            clear HP2 B1 hb2 hs5 HRr
            go_wp2_with fail
            refine HS5.out.mono ?_
            rintro e v5 ⟨A5, c5, rfl, s5, hb5, hc5⟩
            have B5 := Lib.hid (show Below w'.heap.size w' v5 ∧ SeesP v5 (· < v5.heap.size) A1 (Us x1) ∧ SeesP v5 (· < v5.heap.size) A5 (Us cb2) from ⟨below_on B2.out.1 hb5, bs_on B2.out.2 hb5, s5.imp fun b hb => hb.2⟩)
            have X5 := Lib.hid (show SeesF v5 (· < v5.heap.size) A3 f3 ∧ SeesF v5 (· < v5.heap.size) A4 f3 from ⟨fs_on X2.out.1 hb5, fs_on X2.out.2 hb5⟩); clear X2
            have hs6 := ref_canonical x1 A1 c1 v5 (by omega) hxc B5.out.2.1
            rw [← HQ.out.1, ← HQ.out.2] at hs6
            have HS6 := Lib.hid hs6
            clear HS5 B2 hb5 hs6 s5 hc5
            go_wp2_with fail
            refine HS6.out.mono ?_
            rintro e v6 ⟨A6, c6, rfl, s6, hb6, hc6⟩
            have B6 := Lib.hid (show Below w'.heap.size w' v6 ∧ SeesP v6 (· < v6.heap.size) A5 (Us cb2) ∧ SeesP v6 (· < v6.heap.size) A6 (Us cb2) from ⟨below_on B5.out.1 hb6, bs_on B5.out.2.2 hb6, s6.imp fun b hb => hb.2⟩)
            have X6 := Lib.hid (show SeesF v6 (· < v6.heap.size) A3 f3 ∧ SeesF v6 (· < v6.heap.size) A4 f3 from ⟨fs_on X5.out.1 hb6, fs_on X5.out.2 hb6⟩); clear X5
            clear HS6 B5 hb6 s6 hc6 HQ
            go_wp2_with fail
            refine (same_yes 1000 (by decide) f3 A3 A4 c3 c4 v6 _ _ (by omega) HOk.out X6.out.1 X6.out.2).mono ?_
            rintro e v8 ⟨rfl, q8, hq8⟩
            have HQ8 := Lib.hid hq8
            obtain ⟨sx, hsx⟩ : ∃ sx, sx = S cb2 := ⟨_, rfl⟩
            have y1 : (convert 27 9 (.slice A5 cb2.length c5)).run Try.prog v8 = .ok (.string sx) v8 := by rw [hq8, hsx]; exact conv_drew B6.out.2.1 c5 _
            have y2 : (convert 27 9 (.slice A6 cb2.length c6)).run Try.prog v8 = .ok (.string sx) v8 := by rw [hq8, hsx]; exact conv_drew B6.out.2.2 c6 _
            clear hq8 hsx
            go_wp2_with fail
            go_ret
            refine ⟨rfl, ?_⟩
            rw [HQ8.out]
            exact below_dn B6.out.1 _
  · rw [decide_eq_false hL]
    clear hL HLt HRo
    go_wp2_with fail
    refine (awake _).mono ?_
    rintro e w2 ⟨rfl, hb⟩
    have HB := Lib.hid hb
    clear hb
    go_wp2_with fail
    go_ret
    exact ⟨rfl, HB.out⟩

/-! ### the given statement, out of the walk -/
set_option maxRecDepth 100000 in
theorem lifted (os : Os) (started : os.Started) (H : Type) (enc : TypeId × Value → H) :
    ReturnsInHanded {} Try.checked os 6 .any (Rows.tlvReadsMadeSpec.pre6 enc Try.prog Try.f6 Rows.tlvReadsMadeRow.domain false) (Rows.tlvReadsMadeSpec.post enc Try.prog Try.f6 false true false false) := by
  refine returnsInHanded_of_change_sized (C := Try.checked) own started (by kernel_rfl) Try.func6
    (ChangeSpec.witness6 (enc := enc) (C := Try.checked) false ⟨#[], #[.slice none 0 0, .bool false], []⟩ 8 (by kernel_rfl) (by kernel_rfl) (by kernel_rfl) (by kernel_rfl)) ?_
  intro W base args ds gs before hval0 hW hcnd hsz0 _
  have hsz : (DataW.weightsEach Try.prog (Try.f6.params.toList ++ Rows.tlvReadsMadeSpec.plain.varTypes Try.prog) (ds ++ gs)).all (· ≤ reachBytes) = true := hsz0
  have hval : ∀ (j : Nat) t v, Try.f6.params[j]? = some t → args[j]? = some v → Value.okWide Try.prog W .any base t v := hval0
  have hW' := hW
  obtain ⟨p, q, hA0, hV, rfl, hfz, hnd⟩ := hW
  have hA : DataW.TrodAll enc Try.prog W 0 (fun _ => true) true Try.f6.params.toList args.toList ds p := hA0
  rw [Try.params6] at hA hval hsz
  obtain ⟨v0, vs0, d0, ds0, p0, q0, hargs, rfl, rfl, h0, r0⟩ := trodAll_cons hA
  obtain ⟨v1, vs1, d1, ds1, p1, q1, rfl, rfl, rfl, h1, r1⟩ := trodAll_cons r0
  obtain ⟨rfl, rfl, rfl⟩ := trodAll_nil r1
  obtain rfl : args = #[v0, v1] := by cases args; simp_all
  obtain ⟨rfl, rfl⟩ := trodVars_none hV
  obtain ⟨a0, len0, cap0, rfl⟩ := okWide_slice Try.underlying25 (hval 0 25 v0 rfl rfl)
  have lt0 : ∀ x ∈ p0, x.block < W.heap.size := by obtain ⟨m, hm⟩ := h0; exact DataW.trod_lt m _ _ _ hm
  obtain ⟨x0, rfl, see0, rng0, hl0, hc0⟩ := open_i64s h0 lt0
  have m0 := reach_i64s hsz (j := 0) rfl rfl hl0 hc0
  obtain ⟨b1, rfl, rfl, rfl⟩ := open_bool Try.underlying4 (hval 1 4 v1 rfl rfl) h1
  clear hA0 hval0
  refine (walk a0 cap0 x0 b1 W see0 m0 rng0).mono fun e W' ⟨he, bel⟩ => ?_
  subst he
  exact ⟨_, rfl, _, _, _, [], _, [], hW', trodAll_mk1 (shut_bool Try.underlying4 _), (trodAll_cons_mk (Below.trod laidOut (by kernel_rfl) (of_decide_eq_true (by kernel_rfl)) h0 bel lt0) (trodAll_cons_mk (shut_bool Try.underlying4 _) trodAll_mk0)), rfl, bel.frame _, fun h => by cases h⟩

theorem proved : Rows.TlvReadsMadeSaid :=
  OpenClaim.holds_of_wide 6 Try.f6 rfl rfl rfl rfl rfl rfl rfl ⟨rfl, rfl, rfl, rfl, rfl⟩ rfl rfl rfl rfl rfl (by kernel_rfl) Try.func6 (by kernel_rfl)
    (of_decide_eq_true (by kernel_rfl)) (by unfold Func.isWrapper; first | (rw [if_pos (by decide +kernel)]; kernel_rfl) | (rw [if_neg (by decide +kernel)]; exact ⟨rfl, rfl⟩))
    (fun os started H enc _ => lifted os started H enc)
end Go.Proofs.Ytipmmclahngabaa.tlvReadsMade
