/-
  What is proved here: the law ZoneNotices as a function: true for any numbers.
-/
import Derived.Test.YtdlcoilpkelbaaaGreatDoorZrw
import Derived.Test.YtdlcoilpkelbaaaGreatDoorZim
import Derived.Test.YtdlcoilpkelbaaaGreatDoorY19
import Derived.Deep.CutRange
import Derived.Deep.RegionWith
namespace Go.Proofs.YtdlcoilpkelbaaaGreatDoor
open Go.RowKit Go.Maps Go.Deep
set_option linter.unusedVariables false

theorem digit_val (a mm : Nat) (h0 : 48 ≤ a) (h1 : a ≤ 57) (h2 : mm < 9) :
    IntKind.u8.wrap (IntKind.i64.wrap (48 + (IntKind.i64.wrap (IntKind.i64.wrap (IntKind.i64.wrap (IntKind.u8.wrap ((a : Int) - 48)) + 1) + (mm : Int))).tmod 10)) = ((UInt8.ofNat (48 + (a - 48 + 1 + mm) % 10)).toNat : Int) := by
  have e : IntKind.i64.wrap (IntKind.i64.wrap (IntKind.i64.wrap (IntKind.u8.wrap ((a : Int) - 48)) + 1) + (mm : Int)) = (a : Int) - 48 + 1 + mm := by
    rw [IntKind.wrap_u8, IntKind.wrap_i64, IntKind.wrap_i64, IntKind.wrap_i64]
    omega
  rw [e, Int.tmod_eq_emod_of_nonneg (by omega), IntKind.wrap_u8, IntKind.wrap_i64, UInt8.toNat_ofNat']
  omega
theorem strV_at {ls : List (List UInt8)} {i : Nat} (h : i < ls.length) : (strV ls)[i]? = some (.string (S (ls.getD i []))) := by
  unfold strV
  simp [h]
theorem strs_of {w : World} {g : Nat} {ls : List (List UInt8)} (h : RowV w g (strV ls)) : Strs w (some ⟨g, 0, none⟩) ls := h.sees0
theorem strV_put (ls : List (List UInt8)) (i : Nat) (y : List UInt8) : (strV ls).set i (.string (S y)) = strV (ls.set i y) := by
  unfold strV
  rw [List.map_set]
theorem build_30 {z : Zn} (hz : vE z = 0) : 2 ≤ (buildL z).length ∧ (buildL z).length ≤ 3 ∧ ∀ i, i < 2 → 30 ≤ ((buildL z).getD i []).length ∧ ((buildL z).getD i []).length ≤ 44 := by
  have h1 := (vE_ok hz).1
  have hL := bk_lines hz
  rw [build_T hz]
  have c : 2 ≤ cntN z.fm ∧ cntN z.fm ≤ 3 := by unfold cntN; repeat (first | omega | split)
  have w : 30 ≤ widN z.fm ∧ widN z.fm ≤ 44 := by unfold widN; repeat (first | omega | split)
  exact ⟨by rw [hL.1]; omega, by rw [hL.1]; omega, fun i hi => by rw [hL.2 i (by omega)]; exact w⟩

set_option maxHeartbeats 6400000 in
set_option maxRecDepth 40000 in
theorem zn_walk (A0 : Option Addr) (c : Nat) (x : List Int) (p q : Int) (w : World) (hM : Mm w) (see : SeesP w (· < w.heap.size) A0 (x.map (Value.int .i64))) (m : x.length ≤ 140737488351232) (rng : ∀ y ∈ x, -9223372036854775808 ≤ y ∧ y ≤ 9223372036854775807) (wp : (Lit.int .i64 p).wf = true) (wq : (Lit.int .i64 q).wf = true) :
    Calls Tryz.prog 8 #[.slice A0 x.length c, .int .i64 p, .int .i64 q] w fun e w' => e = .returned (.bool true) ∧ Below w.heap.size w w' := by
  obtain ⟨p0, p1⟩ : IntKind.i64.min ≤ p ∧ p ≤ IntKind.i64.max := by simpa [Lit.wf] using wp
  obtain ⟨q0, q1⟩ : IntKind.i64.min ≤ q ∧ q ≤ IntKind.i64.max := by simpa [Lit.wf] using wq
  rw [show IntKind.i64.min = -9223372036854775808 from rfl] at p0 q0
  rw [show IntKind.i64.max = 9223372036854775807 from rfl] at p1 q1
  have HM := Lib.hid hM
  have HL := Lib.hid (made_light A0 x.length c w m)
  by_cases hx : ¬ x.length ≤ 400
  · have d : decide (x.length ≤ 400) = false := decide_eq_false hx
    rw [d] at HL
    clear hM see m rng wp wq hx d
    go_enter Tryz.func8, Tryz.ntmps8
    go_wp2_with (first
      | (go_at_call 20; refine HL.out.mono ?_; rintro e w' ⟨rfl, hw⟩; rw [hw]; clear hw)
      | (go_at_call 14; ((with_reducible refine (zone_awake _ HM.out).mono ?_); rintro e w1 ⟨rfl, hb⟩); have HB := Lib.hid hb; clear hb))
    go_ret
    exact ⟨rfl, HB.out⟩
  have d : decide (x.length ≤ 400) = true := decide_eq_true (Classical.not_not.1 hx)
  have HR := Lib.hid (made_roll A0 c x w m rng see)
  rw [d] at HL
  clear hM see m rng wp wq d hx
  go_enter Tryz.func8, Tryz.ntmps8
  go_wp2_with (first
    | (go_at_call 20; refine HL.out.mono ?_; rintro e w' ⟨rfl, hw⟩; rw [hw]; clear hw)
    | (go_at_call 21; refine HR.out.mono ?_; rintro e w1 ⟨rfl, hd1, hb1⟩))
  refine (dice_zone w.heap.size w1 hd1).mono ?_
  rintro e w2 ⟨z, rfl, hz, hbz, hg, hd⟩
  have HZ := Lib.hid (ZWorld.mk (w := w) (w2 := w2) (below_row hb1 hg) hz hbz)
  clear hd1 hb1 hz hbz hg hd HL HR
  obtain ⟨us, hus⟩ : ∃ us, zV z = us := ⟨_, rfl⟩
  rw [hus]
  have HUL : Hid (us.length = zon0.length ∧ (∀ u ∈ us, u.oneCell' = true) ∧ (Tryz.prog.info? 23).map (·.size) = some us.length) := Lib.hid (by rw [← hus]; exact ⟨rfl, zV_one _, size_z⟩)
  obtain ⟨f, hf⟩ : ∃ f, z.fm = f := ⟨_, rfl⟩
  have H0 : Hid (us[0]? = some (.int .i64 f)) := Lib.hid (by rw [← hus, ← hf]; rfl)
  obtain ⟨n, hn⟩ : ∃ n, (buildL z).length = n := ⟨_, rfl⟩
  have hb30 := build_30 HZ.out.v
  rw [hn] at hb30
  have hn3 : 2 ≤ n ∧ n ≤ 3 := ⟨hb30.1, hb30.2.1⟩
  have HLN := Lib.hid (And.intro hb30.2.2 hn)
  have HFM := Lib.hid hf
  have HBD : Hid (∀ w, Mm w → Calls Tryz.prog 10 #[.agg us.toArray] w fun e w' => ∃ A, e = .returned (.tuple #[.slice A n n, .int .i64 0]) ∧ StrsM w w' A (buildL z) ∧ Below w.heap.size w w') := Lib.hid (fun w hM => by
    have := p_buildM z HZ.out.b w hM
    rw [zn_val, hus, hn, HZ.out.v] at this
    exact this)
  have HNE : Hid (buildL z ≠ []) := Lib.hid (fun e => by rw [e] at hn; simp at hn; omega)
  obtain ⟨X0, hX0⟩ : ∃ X, S ((buildL z).getD 0 []) = X := ⟨_, rfl⟩
  obtain ⟨X1, hX1⟩ : ∃ X, S ((buildL z).getD 1 []) = X := ⟨_, rfl⟩
  have sX0 : 30 ≤ X0.size := by rw [← hX0, S_size]; exact (hb30.2.2 0 (by decide)).1
  have sX1 : 30 ≤ X1.size := by rw [← hX1, S_size]; exact (hb30.2.2 1 (by decide)).1
  have dX0 : decide ((X0.size : Int) < 30) = false := by simp; omega
  have dX1 : decide ((X1.size : Int) < 30) = false := by simp; omega
  have dn2 : decide ((n : Int) < 2) = false := by simp; omega
  have HSV : Hid ((strV (buildL z))[0]? = some (.string X0) ∧ (strV (buildL z))[1]? = some (.string X1)) := Lib.hid (by rw [← hX0, ← hX1]; exact ⟨strV_at (by omega), strV_at (by omega)⟩)
  obtain ⟨k0, hk0⟩ : ∃ k : Nat, p % 28 = k := ⟨(p % 28).toNat, by omega⟩
  have hk28 : k0 < 28 := by omega
  have HMD : Hid (∀ w, Calls Tryz.prog 26 #[.int .i64 p, .int .i64 28] w fun e w' => e = .returned (.int .i64 (k0 : Int)) ∧ w' = w) := Lib.hid (fun w => by
    have := made_mod p 28 p0 p1 (by omega) (by omega) w
    rw [hk0] at this; exact this)
  obtain ⟨mm, hmm⟩ : ∃ k : Nat, q % 9 = k := ⟨(q % 9).toNat, by omega⟩
  have hm9 : mm < 9 := by omega
  have HMQ : Hid (∀ w, Calls Tryz.prog 26 #[.int .i64 q, .int .i64 9] w fun e w' => e = .returned (.int .i64 (mm : Int)) ∧ w' = w) := Lib.hid (fun w => by
    have := made_mod q 9 q0 q1 (by omega) (by omega) w
    rw [hmm] at this; exact this)
  obtain ⟨bF, hbF⟩ : ∃ b, (f == 1) = b := ⟨_, rfl⟩
  have HBF : Hid (bF = decide (f = 1)) := Lib.hid (by rw [← hbF]; rfl)
  have HM2 := Lib.hid (HM.out.on HZ.out.bl)
  have HO := Lib.hid (Own.start w2)
  clear hus hf hn hb30 hX0 hX1 hk0 hmm
  go_upto_if 56 with (first
    | ((with_reducible refine at_alloc_ (d := 7) ?_); refine wpList_alloc_v (op := ⟨some 7, _, _, _, _, _⟩) rfl 23 rfl zon0 info_z ?_; intro g7 v7a hf hr; replace HO := Lib.hid (HO.out.new hf hr); clear hf hr)
    | ((with_reducible refine at_store_ (i := 7) ?_); refine wpList_store_v rfl 23 (.tmp 7) (.tmp 21) rfl g7 zon0 us rfl rfl (HO.out.row (i := 0) rfl) HUL.out.1 HUL.out.2.1 HUL.out.2.2 ?_; intro v7s hw hr; replace HO := Lib.hid (HO.out.set (i := 0) rfl hw hr); clear hw hr)
    | ((with_reducible refine at_load_ (d := 23) ?_); refine wpList_load_v rfl 23 (.tmp 7) rfl g7 rfl us _ (HO.out.row (i := 0) rfl) Tryz.underlying23 rfl HUL.out.2.2 ?_)
    | (go_at_call 10; ((with_reducible refine (HBD.out _ (HM2.out.on HO.out.bl)).mono ?_); rintro e w6 ⟨A, rfl, hs, hb⟩); obtain ⟨gl, rfl, hgl, hrl⟩ := hs.2.resolve_left HNE.out; replace HO := Lib.hid (HO.out.add hb hrl hgl); clear hb hs hgl hrl)
    | (go_at_call 14; ((with_reducible refine (zone_awake _ (HM2.out.on HO.out.bl)).mono ?_); rintro e w8 ⟨rfl, hb⟩); replace HO := Lib.hid (HO.out.on hb); clear hb; have c0 : World.cell? _ ⟨gl, 0, none⟩ = some (.string X0) := ((HO.out.row (i := 1) rfl).cell 0).trans HSV.out.1; have c1 : World.cell? _ ⟨gl, 1, none⟩ = some (.string X1) := ((HO.out.row (i := 1) rfl).cell 1).trans HSV.out.2; have cf : World.cell? _ ⟨g7, 0, none⟩ = some (.int .i64 f) := ((HO.out.row (i := 0) rfl).cell 0).trans H0.out)
    | (go_at_call 26; (with_reducible refine (HMD.out _).mono ?_); rintro e w' ⟨rfl, hw⟩; rw [hw]; clear hw))
  clear c0 c1 cf
  go_cut [10, 11] from 57 to 62 (fun v10 v11 wx => ∃ i k : Nat, v10 = .int .i64 (i : Int) ∧ v11 = .int .i64 (k : Int) ∧ i < 2 ∧ k < 28 ∧ Hid (posOk f i k) ∧ wx = w8)
  case first =>
    rcases bF with _ | _
    · have h1 := of_decide_eq_false HBF.out.symm
      go_wp2_with fail
      go_meet
      exact ⟨1, k0, rfl, rfl, by omega, by omega, Lib.hid (.inr ⟨h1, rfl, hk28⟩), rfl⟩
    · have h1 := Lib.hid (of_decide_eq_true HBF.out.symm)
      by_cases h14 : k0 < 14
      · have d14 : decide ((k0 : Int) < 14) = true := by simp; omega
        go_wp2_with fail
        go_meet
        exact ⟨0, 5 + k0, rfl, by go_num, by omega, by omega, Lib.hid (.inl ⟨h1.out, .inl ⟨rfl, by omega, by omega⟩⟩), rfl⟩
      · have d14 : decide ((k0 : Int) < 14) = false := by simp; omega
        go_wp2_with fail
        go_meet
        exact ⟨1, k0 - 14, rfl, by go_num, by omega, by omega, Lib.hid (.inl ⟨h1.out, .inr ⟨rfl, by omega⟩⟩), rfl⟩
  case rest =>
    obtain ⟨i, k, rfl, rfl, hi2, hk2, HPO, rfl⟩ := hcut
    obtain ⟨y, hy⟩ : ∃ y, (buildL z).getD i [] = y := ⟨_, rfl⟩
    have hyl := HLN.out.1 i hi2
    rw [hy] at hyl
    have cX : World.cell? wc ⟨gl, i, none⟩ = some (.string (S y)) := by rw [← hy]; exact ((HO.out.row (i := 1) rfl).cell i).trans (strV_at (by have := HLN.out.2; omega))
    obtain ⟨X, hX⟩ : ∃ X, S y = X := ⟨_, rfl⟩
    rw [hX] at cX
    have hXl : X.size = y.length := by rw [← hX, S_size]
    obtain ⟨W, cap, zz, hcv, hE, hWb, hcap⟩ := ex_conv X y hX.symm wc
    obtain ⟨g, hg⟩ : ∃ g, g = wc.heap.size := ⟨_, rfl⟩
    rw [← hg] at hcv hE
    have hR := Row8.of_ex hE
    have hky : k < y.length := by omega
    obtain ⟨a, ha⟩ : ∃ a, y[k].toNat = a := ⟨_, rfl⟩
    have ck := hR.cell hky
    rw [ha] at ck
    have HR8 := Lib.hid hR
    have HO2 := Lib.hid (HO.out.on hWb)
    have hgg : g7 < g ∧ gl < g ∧ w2.heap.size ≤ g := ⟨by rw [hg]; exact (HO.out.row (i := 0) rfl).lt, by rw [hg]; exact (HO.out.row (i := 1) rfl).lt, by rw [hg]; exact HO.out.bl.size⟩
    have HGG := Lib.hid hgg
    have jin : (i : Int) < (n : Int) := by omega
    have jkX : (k : Int) < (X.size : Int) := by omega
    have HYA := Lib.hid (show _ ∧ _ ∧ _ ∧ _ from ⟨hy, hX, hXl, ha⟩)
    have hky2 : k < X.size := by omega
    clear hR hE hg hgg hy hX ha hWb HO hyl
    by_cases h1 : a < 48
    · have d1 : decide ((a : Int) < 48) = true := by simp; omega
      go_wp2_with fail
      go_ret
      exact ⟨rfl, below_on HZ.out.bl HO2.out.bl⟩
    have d1 : decide ((a : Int) < 48) = false := by simp; omega
    by_cases h2 : 57 < a
    · have d2 : decide ((57 : Int) < (a : Int)) = true := by simp; omega
      go_wp2_with fail
      go_ret
      exact ⟨rfl, below_on HZ.out.bl HO2.out.bl⟩
    have d2 : decide ((57 : Int) < (a : Int)) = false := by simp; omega
    have hd : a ≤ 57 := by omega
    have a0 : 48 ≤ a := by omega
    obtain ⟨c8, hc8⟩ : ∃ c, UInt8.ofNat (48 + (a - 48 + 1 + mm) % 10) = c := ⟨_, rfl⟩
    have E7 : Hid (IntKind.u8.wrap (IntKind.i64.wrap (48 + (IntKind.i64.wrap (IntKind.i64.wrap (IntKind.i64.wrap (IntKind.u8.wrap ((a : Int) - 48)) + 1) + (mm : Int))).tmod 10)) = (c8.toNat : Int)) := Lib.hid (by rw [← hc8]; exact digit_val a mm a0 hd hm9)
    have HC8 : Hid (48 ≤ c8.toNat ∧ c8.toNat ≤ 57 ∧ (c8.toNat : Int) ≠ (a : Int)) := Lib.hid (by rw [← hc8, UInt8.toNat_ofNat']; omega)
    have fk := HR8.out.free hky
    clear hc8
    go_upto_region 15 with fail
    go_cut [] from 80 to 95 (fun wx => Hid (Row8 wx g (y.set k c8)) ∧ Hid (Own w2 wx [(g7, us), (gl, strV (buildL z))]))
    case first =>
      go_region_with (go_at_call 26; (with_reducible refine (HMQ.out _).mono ?_); rintro e w' ⟨rfl, hw⟩; rw [hw]; clear hw)
      all_goals
        rw [E7.out]
        obtain ⟨w7, hw7⟩ : ∃ w7, w7 = (W.setCell ⟨g, k, none⟩ (.int .u8 (c8.toNat : Int))).drew := ⟨_, rfl⟩
        have HR7 : Hid (Row8 w7 g (y.set k c8)) := Lib.hid (by rw [hw7]; exact HR8.out.set hky _)
        have HO7 : Hid (Own w2 w7 [(g7, us), (gl, strV (buildL z))]) := Lib.hid (by
          rw [hw7]
          refine Own.on (Own.far HO2.out (grown_wr (Wr.cell W ⟨g, k, none⟩ _)) (fun r e => by have e : g = r := Option.some.inj e; have := HGG.out; omega) ?_) (below_drewN _ _ 1)
          intro j g' vs e1 e2
          have e2 : g = g' := Option.some.inj e2
          have hgg := HGG.out
          match j with
          | 0 => (have h3 : g7 = g' := by simp at e1; exact e1.1); omega
          | 1 => (have h3 : gl = g' := by simp at e1; exact e1.1); omega
          | j + 2 => simp at e1)
        rw [← hw7]
        clear hw7
        go_wp2_with fail
        go_meet
        exact ⟨HR7, HO7⟩
    case rest =>
      clear ck fk hcv
      obtain ⟨HRY, HOY⟩ := hcut
      obtain ⟨y', hy'⟩ : ∃ y', y.set k c8 = y' := ⟨_, rfl⟩
      obtain ⟨L2, hL2⟩ : ∃ L2, (buildL z).set i y' = L2 := ⟨_, rfl⟩
      rw [hy'] at HRY
      have hl2 : L2.length = n := by rw [← hL2, List.length_set]; exact HLN.out.2
      have hE2 : parE L2 = 13 := by
        have hya := HYA.out
        have hcb : cB ((buildT z).getD i []) k = (a : Int) := by
          rw [← build_T HZ.out.v, hya.1, cB_get hky, hya.2.2.2]
        have h := nt_par HZ.out.v (i := i) (k := k) (by rw [HFM.out]; exact HPO.out) (c := c8) (by rw [hcb]; omega) (by rw [hcb]; omega) HC8.out.1 HC8.out.2.1 (by rw [hcb]; exact HC8.out.2.2)
        rw [← build_T HZ.out.v, hya.1, hy', hL2] at h
        exact h
      obtain ⟨qs, hqs⟩ : ∃ qs, zV (parZ L2) = qs := ⟨_, rfl⟩
      have HQL : Hid (qs.length = zon0.length ∧ (∀ u ∈ qs, u.oneCell' = true) ∧ (Tryz.prog.info? 23).map (·.size) = some qs.length) := Lib.hid (by rw [← hqs]; exact ⟨rfl, zV_one _, size_z⟩)
      have HP2 : Hid (∀ w, Mm w → Strs w (some ⟨gl, 0, none⟩) L2 → Calls Tryz.prog 18 #[.slice (some ⟨gl, 0, none⟩) n n] w fun e w' => e = .returned (.tuple #[.agg qs.toArray, .int .i64 13]) ∧ Below w.heap.size w w') := Lib.hid (fun w hM hs => by
        rw [← hqs, ← hE2, ← hl2]; exact p_zparse L2 _ _ (by omega) w hM hs)
      have HSL : Hid ((strV (buildL z)).set i (.string (S y')) = strV L2) := Lib.hid (by rw [strV_put, hL2])
      have hc7 := run_conv wc _ _ _ HRY.out.see y.length cap (by rw [← hy', List.length_set])
      have hiL : i < (strV (buildL z)).length := by rw [strV_len, HLN.out.2]; omega
      clear hqs hE2 hl2 hL2 hy'
      go_wp2_with (first
        | ((with_reducible refine at_store_ (i := 100) ?_); refine wpList_store_at rfl 9 (.tmp 100) (.tmp 99) rfl gl i (strV (buildL z)) (.string (S y')) rfl rfl (HOY.out.row (i := 1) rfl) hiL rfl rfl size_st ?_; intro w9 hw hr; rw [HSL.out] at hr; have HO9 : Hid (Own w2 w9 [(g7, us), (gl, strV L2)]) := Lib.hid (HOY.out.set (i := 1) rfl hw hr); clear hw hr HOY)
        | (go_at_call 18; ((with_reducible refine (HP2.out _ (HM2.out.on HO9.out.bl) (strs_of (HO9.out.row (i := 1) rfl))).mono ?_); rintro e w10 ⟨rfl, hb⟩); replace HO9 := Lib.hid (HO9.out.on hb); clear hb)
        | ((with_reducible refine at_alloc_ (d := 13) ?_); refine wpList_alloc_v (op := ⟨some 13, _, _, _, _, _⟩) rfl 23 rfl zon0 info_z ?_; intro g13 v13a hf hr; replace HO9 := Lib.hid (HO9.out.new hf hr); clear hf hr)
        | ((with_reducible refine at_store_ (i := 13) ?_); refine wpList_store_v rfl 23 (.tmp 13) (.tmp 104) rfl g13 zon0 qs rfl rfl (HO9.out.row (i := 2) rfl) HQL.out.1 HQL.out.2.1 HQL.out.2.2 ?_; intro v13s hw hr; replace HO9 := Lib.hid (HO9.out.set (i := 2) rfl hw hr); clear hw hr))
      go_ret
      exact ⟨rfl, below_on HZ.out.bl HO9.out.bl⟩
end Go.Proofs.YtdlcoilpkelbaaaGreatDoor
