/-
  What is proved here: the law on what is found: what it answers.
-/
import Derived.Test.YtibahbkjjfmbgaaGreatDoorPQ6
import Derived.Test.YtibahbkjjfmbgaaGreatDoorPQay
namespace Go.Proofs.YtibahbkjjfmbgaaGreatDoor
open Go.RowKit
set_option linter.unusedVariables false
theorem take_mem (ls : List (List UInt8)) (X : List (List (List UInt8))) {j : Nat} (hj : j < X.length) : decide (ls ∈ X.take (j + 1)) = (decide (ls ∈ X.take j) || decide (X.getD j [] = ls)) := by
 rw [List.take_add_one, List.getElem?_eq_getElem hj, List.getD_eq_getElem?_getD, List.getElem?_eq_getElem hj]
 simp only [Option.toList_some, Option.getD_some, List.mem_append, List.mem_singleton]
 by_cases h1 : ls ∈ X.take j <;> by_cases h2 : X[j] = ls <;> simp [h1, h2, eq_comm] <;> first | exact fun e => h2 e.symm | exact h2.symm | skip
theorem db_found {ls : List (List UInt8)} {L : List (List (List UInt8))} {q : Nat} (h : DbtOk ls L q true) (hq : q ≤ 6) (hp : parE ls = 0) : ls ∈ rdsL L := by
 have hc := h.cnt hq
 unfold rdsL rdL
 rw [if_pos hc, List.mem_filter]
 refine ⟨mem_chs ?_ (fun i hi => ?_) (fun i hi k hk => h.mem rfl i hi k hk), by simpa using hp⟩
 · have := congrArg List.length h.lens; simpa using this.symm
 · have h1 : (L.map List.length).getD i 0 = (L.getD i []).length := by simp [List.getD, hi]
   have hl : i < ls.length := by have := congrArg List.length h.lens; simp at this; omega
   have h2 : (ls.map List.length).getD i 0 = (ls.getD i []).length := by simp [List.getD, hl]
   rw [← h1, ← h2, h.lens]
set_option maxHeartbeats 6400000 in
set_option maxRecDepth 40000 in
theorem p_lfinds (A0 : Option Addr) (c : Nat) (x : List Int) (w : World) (hM : Mm w) (hG : TabG 0 w) (see : SeesP w (· < w.heap.size) A0 (x.map (Value.int .i64))) (m : x.length ≤ 140737488351232) (rng : ∀ y ∈ x, -9223372036854775808 ≤ y ∧ y ≤ 9223372036854775807) :
 Calls Tryz.prog 5 #[.slice A0 x.length c] w fun e w' => e = .returned (.bool true) ∧ Below w.heap.size w w' := by
 have HM := Lib.hid (show _ ∧ _ from ⟨hM, hG⟩)
 have HL := Lib.hid (made_light A0 x.length c w m)
 by_cases hx : ¬ x.length ≤ 400
 · have d : decide (x.length ≤ 400) = false := decide_eq_false hx
   rw [d] at HL
   clear hM hG see m rng hx d
   go_enter Tryz.func5, Tryz.ntmps5
   go_wp2_with (first
    | (go_at_call 16; refine HL.out.mono ?_; rintro e w' ⟨rfl, hw⟩; rw [hw]; clear hw)
    | (go_at_call 11; ((with_reducible refine (p_awake _ HM.out.1 HM.out.2).mono ?_); rintro e w1 ⟨rfl, hb⟩); have HB := Lib.hid hb; clear hb))
   go_ret
   exact ⟨rfl, HB.out⟩
 have d : decide (x.length ≤ 400) = true := decide_eq_true (Classical.not_not.1 hx)
 have HR := Lib.hid (made_roll A0 c x w m rng see)
 rw [d] at HL
 clear hM hG see m rng d hx
 go_enter Tryz.func5, Tryz.ntmps5
 go_wp2_with (first
  | (go_at_call 16; refine HL.out.mono ?_; rintro e w' ⟨rfl, hw⟩; rw [hw]; clear hw)
  | (go_at_call 18; refine HR.out.mono ?_; rintro e w1 ⟨rfl, hd1, hb1⟩))
 refine (dice_lines2 w.heap.size w1 hd1).mono ?_
 rintro e w2 ⟨ls, n, A2, hsh, hn, rfl, hs2, hg2, hd2⟩
 obtain ⟨D, hD⟩ : ∃ D, w.heap.size = D := ⟨_, rfl⟩
 have HLS := Lib.hid (lines_row hsh hs2)
 have HB2 := Lib.hid (below_row hb1 hg2)
 have HD := Lib.hid hD
 have hDl : D < w1.heap.size := by rw [← hD]; exact hd1.lt
 have HN := Lib.hid (show _ ∧ _ from ⟨hn, hsh⟩)
 have HDB := Lib.hid (fun m0 hm0 => p_doubt ls hsh w.heap.size n n 4 m0 hm0 hn (by decide) A2 w2 hd2 hs2.1)
 rw [hD] at hg2 HDB ⊢
 have HG2 := Lib.hid hg2
 have hn23 : 2 ≤ n ∧ n ≤ 3 := by rw [← hn]; exact shape_len hsh
 have hn2 := hn23.1
 have hn3 := hn23.2
 clear hd1 hb1 hs2 hg2 hd2 hsh hn hn23 HL HR
 go_wp2_with fail
 refine (HDB.out 4 rfl).mono ?_
 rintro e w3 ⟨g0, c0, cs, gR, cR, eR, L, b, rfl, hI, hO, hg3, hd3⟩
 have hbw : Below w.heap.size w w3 := below_row HB2.out (by rw [HD.out]; exact hg3)
 have HW2 := Lib.hid (show w.heap.size ≤ w2.heap.size from HB2.out.size)
 have HB := Lib.hid hbw
 have HI := Lib.hid hI
 have HO := Lib.hid hO
 have HS := Lib.hid hI.rdg
 have HSL := Lib.hid (lines_grown HLS.out hg3 hDl)
 clear HDB hbw hI hO hg3 hd3 HLS HG2 HB2 hDl
 obtain ⟨X, hXX⟩ : ∃ X, rdsL L = X := ⟨_, rfl⟩
 obtain ⟨xl, hxl⟩ : ∃ xl, X.length = xl := ⟨_, rfl⟩
 obtain ⟨O, hOO⟩ : ∃ O, onlL L = O := ⟨_, rfl⟩
 obtain ⟨ol, hol⟩ : ∃ ol, O.length = ol := ⟨_, rfl⟩
 obtain ⟨oe, hoe⟩ : ∃ oe, onlE L = oe := ⟨_, rfl⟩
 have hf := HO.out.fits (by decide)
 have hL := HI.out.len
 have hce := HO.out.cnt (by decide)
 have hX := rds_small L
 have hOs := onl_small L
 have HPR := Lib.hid (fun A c w hM hs => p_readings L hf A n c hL w hM hs)
 have HRR := Lib.hid (fun A c w hs => r_readings L A n c hL hf.2.2 w hs)
 have HPO := Lib.hid (fun A c w hM hs => p_only L hf A n c hL w hM hs)
 have HRO := Lib.hid (fun A c w hs => r_only L A n c hL hf.2.2 w hs)
 unfold OnlP at HPO
 rw [hce, hXX, hxl] at HPR HRR
 rw [hoe, hOO, hol] at HPO HRO
 rw [hXX, hxl] at hX
 rw [hOO, hol] at hOs
 have HSA := Lib.hid (fun A B c d w ha hb => r_same2 X A B xl c d hxl hX.1 hX.2 w ha hb)
 have HSB := Lib.hid (fun A B c d w ha hb => r_same_eq O A B ol c d hol hOs w ha hb)
 have HXF := Lib.hid (show _ ∧ _ ∧ _ from ⟨hXX, hxl, hX.2⟩)
 have hxl2 := hX.1
 clear hf hL hce hX hOs hXX hxl hOO hol hoe
 go_wp2_with (first
  | (go_at_call 20; ((with_reducible refine (HPR.out _ _ _ (HM.out.1.on HB.out) HS.out).mono ?_); rintro e w4 ⟨A4, c4, rfl, hx, hb⟩); have HX := Lib.hid hx; replace HS := Lib.hid (HS.out.on hb); replace HSL := Lib.hid (Strs.on HSL.out hb); replace HB := Lib.hid (below_on HB.out hb); clear hb hx)
  | (go_at_call 21; ((with_reducible refine (HRR.out _ _ _ HS.out).mono ?_); rintro e w5 ⟨A5, c5, rfl, hx, hb⟩); have HY := Lib.hid hx; replace HS := Lib.hid (HS.out.on hb); replace HSL := Lib.hid (Strs.on HSL.out hb); replace HX := Lib.hid (HX.out.on hb); replace HB := Lib.hid (below_on HB.out hb); clear hb hx)
  | (go_at_call 22; ((with_reducible refine (HPO.out _ _ _ (HM.out.1.on HB.out) HS.out).mono ?_); rintro e w6 ⟨A6, rfl, hx, hb⟩); have HXO := Lib.hid hx.1; replace HS := Lib.hid (HS.out.on hb); replace HSL := Lib.hid (Strs.on HSL.out hb); replace HX := Lib.hid (HX.out.on hb); replace HY := Lib.hid (HY.out.on hb); replace HB := Lib.hid (below_on HB.out hb); clear hb hx)
  | (go_at_call 23; ((with_reducible refine (HRO.out _ _ _ HS.out).mono ?_); rintro e w7 ⟨A7, c7, rfl, hx, hb⟩); have HYO := Lib.hid hx; replace HS := Lib.hid (HS.out.on hb); replace HSL := Lib.hid (Strs.on HSL.out hb); replace HX := Lib.hid (HX.out.on hb); replace HY := Lib.hid (HY.out.on hb); replace HXO := Lib.hid (Strs.on HXO.out hb); replace HB := Lib.hid (below_on HB.out hb); clear hb hx)
  | (go_at_call 11; ((with_reducible refine (p_awake _ (HM.out.1.on HB.out) (HM.out.2.on HB.out)).mono ?_); rintro e w8 ⟨rfl, hb⟩); replace HS := Lib.hid (HS.out.on hb); replace HSL := Lib.hid (Strs.on HSL.out hb); replace HX := Lib.hid (HX.out.on hb); replace HY := Lib.hid (HY.out.on hb); replace HXO := Lib.hid (Strs.on HXO.out hb); replace HYO := Lib.hid (Strs.on HYO.out hb); replace HB := Lib.hid (below_on HB.out hb); clear hb)
  | (go_at_call 15; ((with_reducible refine (HSA.out _ _ _ _ _ HX.out HY.out).mono ?_); rintro e w9 ⟨rfl, hb⟩); replace HS := Lib.hid (HS.out.on hb); replace HSL := Lib.hid (Strs.on HSL.out hb); replace HX := Lib.hid (HX.out.on hb); replace HXO := Lib.hid (Strs.on HXO.out hb); replace HYO := Lib.hid (Strs.on HYO.out hb); replace HB := Lib.hid (below_on HB.out hb); clear hb)
  | (go_at_call 24; ((with_reducible refine (HSB.out _ _ _ _ _ HXO.out HYO.out).mono ?_); rintro e w10 ⟨rfl, hb⟩); replace HS := Lib.hid (HS.out.on hb); replace HSL := Lib.hid (Strs.on HSL.out hb); replace HX := Lib.hid (HX.out.on hb); replace HB := Lib.hid (below_on HB.out hb); clear hb))
 clear HSA HSB HPR HRR HPO HRO HXO HYO HY
 go_loopw [16, 15] (fun i v wr => ∃ (j : Nat) (bf : Bool), j ≤ xl ∧ i = .int .i64 (j : Int) ∧ v = .bool bf ∧ Hid (decide (ls ∈ X.take j) = bf ∧ Rdg wr A4 X ∧ Strs wr A2 ls ∧ Below w.heap.size w wr)) (fun i _ _ => xl - (intOf i).toNat)
 case atStart => exact ⟨0, false, by omega, rfl, rfl, Lib.hid ⟨by simp, HX.out, HSL.out, HB.out⟩⟩
 case round =>
  clear HX HSL HB
  obtain ⟨j, bf, hj, rfl, rfl, HH⟩ := hrel
  by_cases hlt : j < xl
  ·
   have hj0 : (j : Int) < (xl : Int) := by omega
   have hjl : j < X.length := by rw [HXF.out.2.1]; exact hlt
   have htm := take_mem ls X hjl
   obtain ⟨hbf, hx, hsl, hb⟩ := HH.out
   rw [hbf] at htm
   clear HH
   rcases bf with _ | _
   ·
    obtain ⟨b1, o1, A1, c1, rfl, hc1, hs1⟩ := hx.cell hjl
    obtain ⟨y, hy⟩ : ∃ y, X.getD j [] = y := ⟨_, rfl⟩
    obtain ⟨yl, hyl⟩ : ∃ yl, y.length = yl := ⟨_, rfl⟩
    rw [hy] at hc1 hs1 htm
    rw [hyl] at hc1
    have hyl2 : yl ≤ 1000000 := by rw [← hyl, ← hy]; exact HXF.out.2.2 _ (by rw [List.getD_eq_getElem?_getD, List.getElem?_eq_getElem hjl]; exact List.getElem_mem _)
    obtain ⟨bq, hbq⟩ : ∃ bq, decide (y = ls) = bq := ⟨_, rfl⟩
    rw [hbq] at htm
    have HSQ := Lib.hid (fun c d => r_same_b y ls A1 A2 yl n c d hyl HN.out.1 hyl2 bq hbq wr hs1 hsl)
    have HE := Lib.hid (show _ ∧ _ ∧ _ ∧ _ from ⟨htm, hx, hsl, hb⟩)
    have HC1 := Lib.hid hc1
    clear htm hx hsl hb hc1 hs1 hy hyl hbq hbf hjl
    go_wp2_with (first
     | ((with_reducible refine at_load_ (d := 88) ?_); refine wpList_load_cg (by rfl) _ _ rfl b1 (o1 + j) rfl _ HC1.out (fun w => by kernel_rfl) ?_)
     | ((with_reducible refine at_any_ (d := 82) ?_); refine wpList_add1 rfl _ _ _ rfl j rfl rfl (by omega) ?_)
     | (go_at_call 24; ((with_reducible refine (HSQ.out _ _).mono ?_); rintro e w11 ⟨rfl, hb⟩); have HB := Lib.hid hb; clear hb))
    go_roundw
    case rel =>
     obtain ⟨h1, h2, h3, h4⟩ := HE.out
     exact ⟨j + 1, bq, by omega, by first | rfl | go_num, by first | rfl | simp, Lib.hid ⟨by rw [h1]; simp, h2.on HB.out, Strs.on h3 HB.out, below_on h4 HB.out⟩⟩
    case measure => simp [intOf]; omega
   · have HE := Lib.hid (show _ ∧ _ ∧ _ ∧ _ from ⟨htm, hx, hsl, hb⟩)
     clear htm hx hsl hb hbf hjl
     go_wp2_with (first
      | ((with_reducible refine at_any_ (d := 82) ?_); refine wpList_add1 rfl _ _ _ rfl j rfl rfl (by omega) ?_))
     go_roundw
     case rel =>
      obtain ⟨h1, h2, h3, h4⟩ := HE.out
      exact ⟨j + 1, true, by omega, by first | rfl | go_num, by first | rfl | simp, Lib.hid ⟨by rw [h1]; simp, h2, h3, h4⟩⟩
     case measure => simp [intOf]; omega
  ·
   obtain rfl : j = xl := by omega
   obtain ⟨hbf, hx, hsl, hb⟩ := HH.out
   rw [List.take_of_length_le (by rw [HXF.out.2.1]; exact Nat.le_refl _)] at hbf
   have hfin : bf = true ∨ b = false ∨ ¬ parE ls = 0 := by
    rcases hb0 : b with _ | _
    · exact .inr (.inl rfl)
    · by_cases hp : parE ls = 0
      · left
        rw [← hbf, decide_eq_true_iff, ← HXF.out.1]
        exact db_found (by have := HO.out; rwa [hb0] at this) (by decide) hp
      · exact .inr (.inr hp)
   obtain ⟨us, hus⟩ : ∃ us, zV (parZ ls) = us := ⟨_, rfl⟩
   obtain ⟨ev, hev⟩ : ∃ ev, parE ls = ev := ⟨_, rfl⟩
   have HUL : Hid (us.length = zon0.length ∧ (∀ u ∈ us, u.oneCell' = true) ∧ (Tryz.prog.info? 44).map (·.size) = some us.length) := Lib.hid (by rw [← hus]; exact ⟨rfl, zV_one _, size_z⟩)
   have hpz := r_zparse ls A2 n n HN.out.1 wr hsl
   rw [hus, hev] at hpz
   rw [hev] at hfin
   have HP := Lib.hid hpz
   have HB := Lib.hid hb
   have HOW := Lib.hid (Own.start wr)
   clear HH hbf hx hsl hb hus hev hpz
   rcases hfin with rfl | rfl | hev0
   · go_wp2_with (first
      | (go_at_call 25; ((with_reducible refine HP.out.mono ?_); rintro e w12 ⟨rfl, hb⟩); replace HOW := Lib.hid (HOW.out.on hb); clear hb)
      | ((with_reducible refine at_alloc_ (d := 17) ?_); refine wpList_alloc_v (op := ⟨some 17, _, _, _, _, _⟩) rfl 44 rfl zon0 info_z ?_; intro g17 v17a hf hr; replace HOW := Lib.hid (HOW.out.new hf hr); clear hf hr)
      | ((with_reducible refine at_store_ (i := 17) ?_); refine wpList_store_v rfl 44 (.tmp 17) (.tmp 95) rfl g17 zon0 us rfl rfl (HOW.out.row (i := 0) rfl) HUL.out.1 HUL.out.2.1 HUL.out.2.2 ?_; intro v17s hw hr; replace HOW := Lib.hid (HOW.out.set (i := 0) rfl hw hr); clear hw hr))
     go_ret
     exact ⟨by first | rfl | simp, below_on HB.out HOW.out.bl⟩
   · rcases bf with _ | _
     · go_wp2_with (first
        | (go_at_call 25; ((with_reducible refine HP.out.mono ?_); rintro e w12 ⟨rfl, hb⟩); replace HOW := Lib.hid (HOW.out.on hb); clear hb)
        | ((with_reducible refine at_alloc_ (d := 17) ?_); refine wpList_alloc_v (op := ⟨some 17, _, _, _, _, _⟩) rfl 44 rfl zon0 info_z ?_; intro g17 v17a hf hr; replace HOW := Lib.hid (HOW.out.new hf hr); clear hf hr)
        | ((with_reducible refine at_store_ (i := 17) ?_); refine wpList_store_v rfl 44 (.tmp 17) (.tmp 95) rfl g17 zon0 us rfl rfl (HOW.out.row (i := 0) rfl) HUL.out.1 HUL.out.2.1 HUL.out.2.2 ?_; intro v17s hw hr; replace HOW := Lib.hid (HOW.out.set (i := 0) rfl hw hr); clear hw hr))
       go_ret
       exact ⟨by first | rfl | simp, below_on HB.out HOW.out.bl⟩
     · go_wp2_with (first
        | (go_at_call 25; ((with_reducible refine HP.out.mono ?_); rintro e w12 ⟨rfl, hb⟩); replace HOW := Lib.hid (HOW.out.on hb); clear hb)
        | ((with_reducible refine at_alloc_ (d := 17) ?_); refine wpList_alloc_v (op := ⟨some 17, _, _, _, _, _⟩) rfl 44 rfl zon0 info_z ?_; intro g17 v17a hf hr; replace HOW := Lib.hid (HOW.out.new hf hr); clear hf hr)
        | ((with_reducible refine at_store_ (i := 17) ?_); refine wpList_store_v rfl 44 (.tmp 17) (.tmp 95) rfl g17 zon0 us rfl rfl (HOW.out.row (i := 0) rfl) HUL.out.1 HUL.out.2.1 HUL.out.2.2 ?_; intro v17s hw hr; replace HOW := Lib.hid (HOW.out.set (i := 0) rfl hw hr); clear hw hr))
       go_ret
       exact ⟨by first | rfl | simp, below_on HB.out HOW.out.bl⟩
   ·
    have hev1 : (ev = 0) = False := by simpa using hev0
    have hev2 : (ev != 0) = true := by simpa using hev0
    clear hev0
    rcases bf with _ | _
    · rcases b with _ | _
      · go_wp2_with (first
         | (go_at_call 25; ((with_reducible refine HP.out.mono ?_); rintro e w12 ⟨rfl, hb⟩); replace HOW := Lib.hid (HOW.out.on hb); clear hb)
         | ((with_reducible refine at_alloc_ (d := 17) ?_); refine wpList_alloc_v (op := ⟨some 17, _, _, _, _, _⟩) rfl 44 rfl zon0 info_z ?_; intro g17 v17a hf hr; replace HOW := Lib.hid (HOW.out.new hf hr); clear hf hr)
         | ((with_reducible refine at_store_ (i := 17) ?_); refine wpList_store_v rfl 44 (.tmp 17) (.tmp 95) rfl g17 zon0 us rfl rfl (HOW.out.row (i := 0) rfl) HUL.out.1 HUL.out.2.1 HUL.out.2.2 ?_; intro v17s hw hr; replace HOW := Lib.hid (HOW.out.set (i := 0) rfl hw hr); clear hw hr))
        go_ret
        exact ⟨by first | rfl | simp, below_on HB.out HOW.out.bl⟩
      · go_wp2_with (first
         | (go_at_call 25; ((with_reducible refine HP.out.mono ?_); rintro e w12 ⟨rfl, hb⟩); replace HOW := Lib.hid (HOW.out.on hb); clear hb)
         | ((with_reducible refine at_alloc_ (d := 17) ?_); refine wpList_alloc_v (op := ⟨some 17, _, _, _, _, _⟩) rfl 44 rfl zon0 info_z ?_; intro g17 v17a hf hr; replace HOW := Lib.hid (HOW.out.new hf hr); clear hf hr)
         | ((with_reducible refine at_store_ (i := 17) ?_); refine wpList_store_v rfl 44 (.tmp 17) (.tmp 95) rfl g17 zon0 us rfl rfl (HOW.out.row (i := 0) rfl) HUL.out.1 HUL.out.2.1 HUL.out.2.2 ?_; intro v17s hw hr; replace HOW := Lib.hid (HOW.out.set (i := 0) rfl hw hr); clear hw hr))
        go_ret
        exact ⟨by first | rfl | simp, below_on HB.out HOW.out.bl⟩
    · go_wp2_with (first
       | (go_at_call 25; ((with_reducible refine HP.out.mono ?_); rintro e w12 ⟨rfl, hb⟩); replace HOW := Lib.hid (HOW.out.on hb); clear hb)
       | ((with_reducible refine at_alloc_ (d := 17) ?_); refine wpList_alloc_v (op := ⟨some 17, _, _, _, _, _⟩) rfl 44 rfl zon0 info_z ?_; intro g17 v17a hf hr; replace HOW := Lib.hid (HOW.out.new hf hr); clear hf hr)
       | ((with_reducible refine at_store_ (i := 17) ?_); refine wpList_store_v rfl 44 (.tmp 17) (.tmp 95) rfl g17 zon0 us rfl rfl (HOW.out.row (i := 0) rfl) HUL.out.1 HUL.out.2.1 HUL.out.2.2 ?_; intro v17s hw hr; replace HOW := Lib.hid (HOW.out.set (i := 0) rfl hw hr); clear hw hr))
      go_ret
      exact ⟨by first | rfl | simp, below_on HB.out HOW.out.bl⟩
end Go.Proofs.YtibahbkjjfmbgaaGreatDoor
