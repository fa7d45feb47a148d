/-
  What is proved here: the law on further characters: what it answers.
-/
import Derived.Test.YtibahbkjjfmbgaaGreatDoorPQ6
namespace Go.Proofs.YtibahbkjjfmbgaaGreatDoor
open Go.RowKit
set_option linter.unusedVariables false
theorem shr_3 (z : Int) (lo : -9223372036854775808 ≤ z) (hi : z ≤ 9223372036854775807) (x y : Operand) (w : World) : (do eqGuard .shr 3 x y (.int .i64 z) (.int .u64 3); binOp .shr 3 (.int .i64 z) (.int .u64 3)).run Tryz.prog w = .ok (.int .i64 (z / 8)) w := by
 have h : z.fdiv 8 = z / 8 := Int.fdiv_eq_ediv_of_nonneg z (by decide)
 simp [eqGuard, binOp, go_sem, Op.shift, h]
theorem mod_nat (z : Int) {n : Nat} (hn : 0 < n) : ∃ i : Nat, z % (n : Int) = (i : Int) ∧ i < n := by
 have h0 := Int.emod_nonneg z (show (n : Int) ≠ 0 by omega)
 have h1 := Int.emod_lt_of_pos z (show (0 : Int) < (n : Int) by omega)
 exact ⟨(z % (n : Int)).toNat, by omega, by omega⟩
theorem sub_step {α : Type} (d : α) {X Y : List α} {i j : Nat} (hi : i < X.length) (hj : j < Y.length) (h : (X.drop i).Sublist (Y.drop j)) : (X.drop (i + 1)).Sublist (Y.drop j) ∧ (X.getD i d ≠ Y.getD j d → (X.drop i).Sublist (Y.drop (j + 1))) := by
 rw [drop_cons d X i hi, drop_cons d Y j hj] at h
 refine ⟨?_, fun hne => ?_⟩
 · rw [drop_cons d Y j hj]
   exact (List.sublist_cons_self _ _).trans h
 · rw [drop_cons d X i hi]
   generalize X.getD i d = a at h hne ⊢
   generalize Y.getD j d = b at h hne
   cases h with
   | cons _ h => exact h
   | cons_cons _ h => exact absurd rfl hne
theorem sub_lt {α : Type} {X Y : List α} {i j : Nat} (hi : i < X.length) (h : (X.drop i).Sublist (Y.drop j)) : j < Y.length := by
 have := h.length_le
 rw [List.length_drop, List.length_drop] at this
 omega
theorem r053 : S [48, 60, 53] = ⟨#[48, 60, 53]⟩ := rfl
set_option maxHeartbeats 6400000 in
set_option maxRecDepth 40000 in
theorem p_lgrows (A0 : Option Addr) (c : Nat) (x : List Int) (n0 : Int) (nlo : -9223372036854775808 ≤ n0) (nhi : n0 ≤ 9223372036854775807) (w : World) (hM : Mm w) (hG : TabG 0 w) (see : SeesP w (· < w.heap.size) A0 (x.map (Value.int .i64))) (m : x.length ≤ 140737488351232) (rng : ∀ y ∈ x, -9223372036854775808 ≤ y ∧ y ≤ 9223372036854775807) :
 Calls Tryz.prog 7 #[.slice A0 x.length c, .int .i64 n0] w fun e w' => e = .returned (.bool true) ∧ Below w.heap.size w w' := by
 have HM := Lib.hid (show _ ∧ _ from ⟨hM, hG⟩)
 have HL := Lib.hid (made_light A0 x.length c w m)
 by_cases hx : ¬ x.length ≤ 400
 · have d : decide (x.length ≤ 400) = false := decide_eq_false hx
   rw [d] at HL
   clear hM hG see m rng hx d
   go_enter Tryz.func7, Tryz.ntmps7
   go_wp2_with (first
    | (go_at_call 16; refine HL.out.mono ?_; rintro e w' ⟨rfl, hw⟩; rw [hw]; clear hw)
    | (go_at_call 11; ((with_reducible refine (p_awake _ HM.out.1 HM.out.2).mono ?_); rintro e w1 ⟨rfl, hb⟩); have HB := Lib.hid hb; clear hb))
   go_ret
   exact ⟨rfl, HB.out⟩
 have d : decide (x.length ≤ 400) = true := decide_eq_true (Classical.not_not.1 hx)
 have HR := Lib.hid (made_roll A0 c x w m rng see)
 rw [d] at HL
 clear hM hG see m rng d hx
 go_enter Tryz.func7, Tryz.ntmps7
 go_wp2_with (first
  | (go_at_call 16; refine HL.out.mono ?_; rintro e w' ⟨rfl, hw⟩; rw [hw]; clear hw)
  | (go_at_call 18; refine HR.out.mono ?_; rintro e w1 ⟨rfl, hd1, hb1⟩))
 refine (dice_lines2 w.heap.size w1 hd1).mono ?_
 rintro e w2 ⟨ls, n, A2, hsh, hn, rfl, hs2, hg2, hd2⟩
 obtain ⟨D, hD⟩ : ∃ D, w.heap.size = D := ⟨_, rfl⟩
 have HLS := Lib.hid (lines_row hsh hs2)
 have HB2 := Lib.hid (below_row hb1 hg2)
 have HD := Lib.hid hD
 have hDl : D < w1.heap.size := by rw [← hD]; exact hd1.lt
 have HN := Lib.hid (show _ ∧ _ from ⟨hn, hsh⟩)
 have HDB := Lib.hid (fun m0 hm0 => p_doubt ls hsh w.heap.size n n 3 m0 hm0 hn (by decide) A2 w2 hd2 hs2.1)
 rw [hD] at hg2 HDB ⊢
 have HG2 := Lib.hid hg2
 have hn23 : 2 ≤ n ∧ n ≤ 3 := by rw [← hn]; exact shape_len hsh
 have hn2 := hn23.1
 have hn3 := hn23.2
 clear hd1 hb1 hs2 hg2 hd2 hsh hn hn23 HL HR
 go_wp2_with fail
 refine (HDB.out 3 rfl).mono ?_
 rintro e w3 ⟨g0, c0, cs, gR, cR, eR, L, b, rfl, hI, hO, hg3, hd3⟩
 have hbw : Below w.heap.size w w3 := below_row HB2.out (by rw [HD.out]; exact hg3)
 have HW2 := Lib.hid (show w.heap.size ≤ w2.heap.size from HB2.out.size)
 have HB := Lib.hid hbw
 have HI := Lib.hid hI
 have HO := Lib.hid hO
 have HS := Lib.hid hI.rdg
 have HSL := Lib.hid (lines_grown HLS.out hg3 hDl)
 clear HDB hbw hI hO hg3 hd3 HLS HG2 HB2 hDl
 obtain ⟨X, hXX⟩ : ∃ X, rdL L = X := ⟨_, rfl⟩
 obtain ⟨xl, hxl⟩ : ∃ xl, X.length = xl := ⟨_, rfl⟩
 have hf := HO.out.fits (by decide)
 have hL := HI.out.len
 have hce := HO.out.cnt (by decide)
 have hrd : rdsL L = rdL L := by unfold rdsL; rw [if_pos hce]
 have hX := rds_small L
 have HPR := Lib.hid (fun A c w hM hs => p_readingsM L hf A n c hL w hM hs)
 rw [hce, hrd, hXX, hxl] at HPR
 rw [hrd, hXX, hxl] at hX
 have HXF := Lib.hid (show _ ∧ _ ∧ _ from ⟨hXX, hxl, hX.2⟩)
 have hxl2 := hX.1
 obtain ⟨i, hi, hin⟩ := mod_nat n0 (n := n) (by omega)
 have HMD := Lib.hid (fun w => made_mod n0 (n : Int) nlo nhi (by omega) (by omega) w)
 rw [hi] at HMD
 have hil : i < L.length := by rw [hL]; exact hin
 have hlr := comp_row HO.out.cm hil
 obtain ⟨r, hr⟩ : ∃ r, L.getD i [] = r := ⟨_, rfl⟩
 obtain ⟨ln, hln⟩ : ∃ ln, r.length = ln := ⟨_, rfl⟩
 rw [hr, hln] at hlr
 have hl1 := hlr.1
 have hl2 := hlr.2
 have hin0 : (i : Int) < (n : Int) := by omega
 have hn8 : -9223372036854775808 ≤ n0 / 8 ∧ n0 / 8 ≤ 9223372036854775807 := by omega
 obtain ⟨k, hk, hkl⟩ := mod_nat (n0 / 8) (n := ln) (by omega)
 have HMK := Lib.hid (fun w => made_mod (n0 / 8) (ln : Int) hn8.1 hn8.2 (by omega) (by omega) w)
 rw [hk] at HMK
 have hkl0 : (k : Int) < (ln : Int) := by omega
 have hkr : k < (L.getD i []).length := by rw [hr, hln]; exact hkl
 obtain ⟨old, hold⟩ : ∃ old, (L.getD i []).getD k [] = old := ⟨_, rfl⟩
 have holz := HO.out.st i k
 rw [hold] at holz
 obtain ⟨so, hso⟩ : ∃ so, S old = so := ⟨_, rfl⟩
 have hsoz : so.size ≤ 100 := by rw [← hso, S_size]; omega
 have HSHR := Lib.hid (fun x y w => shr_3 n0 nlo nhi x y w)
 have HLO := Lib.hid (show w.heap.size ≤ gR i from by have := (HI.out.rw i hin).1; have h2 := HW2.out; omega)
 have HR := Lib.hid (show _ ∧ _ ∧ _ ∧ _ ∧ _ ∧ _ from ⟨hil, hr, hln, hkr, hold, hso⟩)
 have HLEN : Hid (k < (strV (L.getD i []) ++ eR i).length) := Lib.hid (by rw [List.length_append, strV_len]; omega)
 have HP0 := Lib.hid (show DbtOk ls (putL L i k (old ++ [48, 60, 53])) 4 false ∧ (rdL L).Sublist (rdL (putL L i k (old ++ [48, 60, 53]))) from
  ⟨HO.out.put (b' := false) hil hkr (by simp) (by rw [hold, List.length_append]; simp; omega) (fun h => by cases h), rd_sub L _ hil hkr (fun b hb => List.mem_append_left _ (by rwa [hold] at hb))⟩)
 clear hf hL hce hrd hX hXX hxl hi hlr hk hkr hold holz hso hn8 hil hr hln nlo nhi hkl
 go_wp2_with (first
  | (go_at_call 20; ((with_reducible refine (HPR.out _ _ _ (HM.out.1.on HB.out) HS.out).mono ?_); rintro e w4 ⟨A4, c4, rfl, hx, hb⟩); have HX := Lib.hid hx; have HGL := Lib.hid (show gR i < w3.heap.size from (HI.out.rw i hin).2.2.lt); replace HI := Lib.hid (HI.out.on hb); replace HB := Lib.hid (below_on HB.out hb); clear hb hx HS; have HC0 := Lib.hid (HI.out.cell0 hin); rw [HR.out.2.1, HR.out.2.2.1] at HC0; have HC1 := Lib.hid (HI.out.cell1 hin HR.out.2.2.2.1); rw [HR.out.2.2.2.2.1, HR.out.2.2.2.2.2] at HC1)
  | (go_at_call 27; ((with_reducible refine (HMD.out _).mono ?_); rintro e w5 ⟨rfl, hw⟩); rw [hw]; clear hw)
  | (go_at_call 27; ((with_reducible refine (HMK.out _).mono ?_); rintro e w5 ⟨rfl, hw⟩); rw [hw]; clear hw)
  | ((with_reducible refine at_any_ (d := 39) ?_); refine wpList_bin rfl _ _ _ _ _ rfl (v := .int .i64 (n0 / 8)) rfl rfl (HSHR.out _ _ _) ?_)
  | ((with_reducible refine at_load_ (d := 43) ?_); refine wpList_load_c rfl _ _ rfl g0 i rfl _ HC0.out (fun w => by kernel_rfl) ?_)
  | ((with_reducible refine at_load_ (d := 49) ?_); refine wpList_load_c rfl _ _ rfl g0 i rfl _ HC0.out (fun w => by kernel_rfl) ?_)
  | ((with_reducible refine at_load_ (d := 52) ?_); refine wpList_load_c rfl _ _ rfl (gR i) k rfl _ HC1.out (fun w => by kernel_rfl) ?_)
  | ((with_reducible refine at_store_ (i := 54) ?_); refine wpList_store_at rfl _ (.tmp 54) _ rfl (gR i) k _ (.string (so ++ ⟨#[48, 60, 53]⟩)) rfl rfl (HI.out.rw i hin).2.2 HLEN.out rfl rfl size_st ?_; intro w8 hw hr; replace HI := Lib.hid (HI.out.put (s := old ++ [48, 60, 53]) hin HR.out.2.2.2.1 hw (by rw [← HR.out.2.2.2.2.2, ← r053, S_append] at hr; exact hr)); replace HB := Lib.hid (Wr.bl HB.out hw HLO.out); have HX8 := Lib.hid (HX.out w8 (by rw [hw.2.2.2.1]; exact Nat.le_refl _) (fun g h1 h2 => hw.2.2.2.2 g (by have := HGL.out; omega))); clear hw hr HX)
  | fail)
 obtain ⟨L2, hL2⟩ : ∃ L2, putL L i k (old ++ [48, 60, 53]) = L2 := ⟨_, rfl⟩
 have hp0 := HP0.out
 have hi2 := HI.out
 rw [hL2] at hp0 hi2
 obtain ⟨Y, hYY⟩ : ∃ Y, rdL L2 = Y := ⟨_, rfl⟩
 obtain ⟨yl, hyl⟩ : ∃ yl, Y.length = yl := ⟨_, rfl⟩
 have hf := hp0.1.fits (by decide)
 have hL := hi2.len
 have hce := hp0.1.cnt (by decide)
 have hrd : rdsL L2 = rdL L2 := by unfold rdsL; rw [if_pos hce]
 have hY := rds_small L2
 have HPR2 := Lib.hid (p_readings L2 hf (some ⟨g0, 0, none⟩) n c0 hL w8 (HM.out.1.on HB.out) hi2.rdg)
 rw [hce, hrd, hYY, hyl] at HPR2
 rw [hrd, hYY, hyl] at hY
 have HYF := Lib.hid (show _ ∧ _ from ⟨hyl, hY.2⟩)
 have hyl2 := hY.1
 have hsub := hp0.2
 rw [HXF.out.1, hYY] at hsub
 have HSUB := Lib.hid hsub
 clear hf hL hce hrd hY hYY hyl hsub hp0 hi2 HI HP0 HPR HMD HMK HSHR HC0 HC1 HLEN HR
 go_wp2_with (first
  | (go_at_call 20; ((with_reducible refine HPR2.out.mono ?_); rintro e w9 ⟨A5, c5, rfl, hx, hb⟩); have HY := Lib.hid hx; have HX := Lib.hid (HX8.out.on hb); replace HB := Lib.hid (below_on HB.out hb); clear hb hx HX8)
  | (go_at_call 11; ((with_reducible refine (p_awake _ (HM.out.1.on HB.out) (HM.out.2.on HB.out)).mono ?_); rintro e w10 ⟨rfl, hb⟩); replace HX := Lib.hid (HX.out.on hb); replace HY := Lib.hid (HY.out.on hb); replace HB := Lib.hid (below_on HB.out hb); clear hb))
 clear HPR2
 go_loopw [15, 14] (fun i v wr => ∃ (a j : Nat), a ≤ xl ∧ i = .int .i64 (a : Int) ∧ v = .int .i64 (j : Int) ∧ j ≤ yl ∧ Hid ((X.drop a).Sublist (Y.drop j) ∧ Rdg wr A4 X ∧ Rdg wr A5 Y ∧ Below w.heap.size w wr)) (fun i _ _ => xl - (intOf i).toNat)
 case atStart => exact ⟨0, 0, by omega, rfl, rfl, by omega, Lib.hid ⟨HSUB.out, HX.out, HY.out, HB.out⟩⟩
 case round =>
  clear HX HY HB
  obtain ⟨a, j, ha, rfl, rfl, hj, HH⟩ := hrel
  by_cases hlt : a < xl
  ·
   have ha0 : (a : Int) < (xl : Int) := by omega
   have hal : a < X.length := by rw [HXF.out.2.1]; exact hlt
   have HAL := Lib.hid hal
   clear hal
   go_wp2
   go_loopw [14] (fun v wq => ∃ (j : Nat), v = .int .i64 (j : Int) ∧ j ≤ yl ∧ Hid ((X.drop a).Sublist (Y.drop j) ∧ Rdg wq A4 X ∧ Rdg wq A5 Y ∧ Below w.heap.size w wq)) (fun v _ => yl - (intOf v).toNat)
   case atStart => exact ⟨j, rfl, hj, Lib.hid ⟨HH.out.1, HH.out.2.1, HH.out.2.2.1, HH.out.2.2.2⟩⟩
   case round =>
    clear HH hj
    obtain ⟨j, rfl, hj, HH⟩ := hrel
    obtain ⟨hs, hx, hy, hb⟩ := HH.out
    have hjl : j < Y.length := sub_lt HAL.out hs
    have hjy : j < yl := by rw [← HYF.out.1]; exact hjl
    have hj0 : (j : Int) < (yl : Int) := by omega
    have hst := sub_step [] HAL.out hjl hs
    obtain ⟨b1, o1, A1, c1, rfl, hc1, hs1⟩ := hx.cell HAL.out
    obtain ⟨b2, o2, A6, c6, rfl, hc2, hs2⟩ := hy.cell hjl
    have hxm := HXF.out.2.2 (X.getD a []) (by rw [List.getD_eq_getElem?_getD, List.getElem?_eq_getElem HAL.out]; exact List.getElem_mem _)
    obtain ⟨xa, hxa⟩ : ∃ xa, X.getD a [] = xa := ⟨_, rfl⟩
    obtain ⟨yj, hyj⟩ : ∃ yj, Y.getD j [] = yj := ⟨_, rfl⟩
    obtain ⟨la, hla⟩ : ∃ la, xa.length = la := ⟨_, rfl⟩
    obtain ⟨lj, hlj⟩ : ∃ lj, yj.length = lj := ⟨_, rfl⟩
    obtain ⟨bq, hbq⟩ : ∃ bq, decide (xa = yj) = bq := ⟨_, rfl⟩
    rw [hxa] at hc1 hs1 hst hxm
    rw [hyj] at hc2 hs2 hst
    rw [hla] at hc1 hxm
    rw [hlj] at hc2
    have q1 := quiet_up (w := wr) (fun w' hb => r_same_b xa yj A1 A6 la lj c1 c6 hla hlj hxm bq hbq w' (Strs.on hs1 hb) (Strs.on hs2 hb))
    have l1 := fun (d : Nat) (os : Array Obj) => cell_regrown hc1 d os
    have l2 := fun (d : Nat) (os : Array Obj) => cell_regrown hc2 d os
    have HE := Lib.hid (show _ ∧ _ ∧ _ ∧ _ ∧ _ ∧ _ from ⟨hs, hx, hy, hb, hst, hbq⟩)
    clear HH hs hx hy hb hst hbq hc1 hc2 hs1 hs2 hxa hyj hla hlj hxm hjl
    go_wp2_with fail
    refine wp_region_quiet_below (by kernel_rfl) (by kernel_rfl) ?_
    repeat (first | go_big_quiet_skip | (go_big_quiet_want; go_big_quiet_op; go_big_quiet_on) | quiet_step (with_reducible exact q1 _ _))
    refine wpQuiet_nil ?_
    intro w3 hw3
    have hbw := below_of_regrown hw3
    obtain ⟨hs, hx, hy, hb, hst, hbq⟩ := HE.out
    have HE2 := Lib.hid (show _ ∧ _ ∧ _ ∧ _ from ⟨hst, hx.on hbw, hy.on hbw, below_on hb hbw⟩)
    have HBQ := Lib.hid hbq
    clear hw3 l1 l2 q1 HE hs hx hy hb hst hbq hbw
    rcases bq with _ | _
    · go_wp2_with (first
       | ((with_reducible refine at_any_ (d := 93) ?_); refine wpList_add1 rfl _ _ _ rfl j rfl rfl (by omega) ?_))
      go_roundw
      case rel => exact ⟨j + 1, by first | rfl | go_num, by omega, Lib.hid ⟨HE2.out.1.2 (of_decide_eq_false HBQ.out), HE2.out.2.1, HE2.out.2.2.1, HE2.out.2.2.2⟩⟩
      case measure => simp [intOf]; omega
    · have hjne : ((j : Int) = (yl : Int)) = False := by simp; omega
      go_wp2_with (first
       | ((with_reducible refine at_any_ (d := 75) ?_); refine wpList_add1 rfl _ _ _ rfl a rfl rfl (by omega) ?_))
      go_roundw
      case rel => exact ⟨a + 1, j, by omega, by first | rfl | go_num, rfl, by omega, Lib.hid ⟨HE2.out.1.1, HE2.out.2.1, HE2.out.2.2.1, HE2.out.2.2.2⟩⟩
      case measure => simp [intOf]; omega
  · obtain rfl : a = xl := by omega
    go_wp2
    go_ret
    exact ⟨by first | rfl | simp, HH.out.2.2.2⟩
end Go.Proofs.YtibahbkjjfmbgaaGreatDoor
