/-
  What is proved here: plain facts: the choices of a reading ascend.
-/
import Derived.Test.YtibahbkjjfmbgaaGreatDoorPQ1
import Derived.Test.YtibahbkjjfmbgaaGreatDoorPQ6
namespace Go.Proofs.YtibahbkjjfmbgaaGreatDoor
open Go.RowKit
set_option linter.unusedVariables false
theorem bl_cons (a b : UInt8) (x y : List UInt8) : Op.bytesLess (a :: x) (b :: y) = (decide (a < b) || (a == b && Op.bytesLess x y)) := rfl
theorem bl_asym : ∀ x y : List UInt8, Op.bytesLess x y = true → Op.bytesLess y x = false ∧ (y == x) = false
 | [], [], h => by simp [Op.bytesLess] at h
 | [], b :: y, _ => ⟨rfl, rfl⟩
 | a :: x, [], h => by simp [Op.bytesLess] at h
 | a :: x, b :: y, h => by
  rw [bl_cons] at h ⊢
  rw [Bool.or_eq_true, Bool.and_eq_true, decide_eq_true_iff, beq_iff_eq] at h
  rcases h with h | ⟨rfl, h⟩
  · have h1 : ¬ b < a := fun e => absurd (UInt8.lt_trans h e) (UInt8.lt_irrefl a)
    have h2 : ¬ b = a := fun e => by rw [e] at h; exact absurd h (UInt8.lt_irrefl a)
    have h3 : (b == a) = false := by simpa using h2
    refine ⟨by simp [h1, h3], ?_⟩
    show (b == a && y == x) = false
    rw [h3]; rfl
  · obtain ⟨h1, h2⟩ := bl_asym x y h
    refine ⟨by simp [h1, UInt8.lt_irrefl], ?_⟩
    show (a == a && y == x) = false
    rw [h2]; simp
theorem bl_app (u v : List UInt8) : ∀ q : List UInt8, Op.bytesLess u v = true → Op.bytesLess (q ++ u) (q ++ v) = true
 | [], h => h
 | a :: q, h => by
  show Op.bytesLess (a :: (q ++ u)) (a :: (q ++ v)) = true
  rw [bl_cons, bl_app u v q h]
  simp
theorem bl_same (u v : List UInt8) : ∀ x y : List UInt8, x.length = y.length → Op.bytesLess x y = true → Op.bytesLess (x ++ u) (y ++ v) = true
 | [], [], _, h => by simp [Op.bytesLess] at h
 | [], b :: y, hl, _ => by simp at hl
 | a :: x, [], hl, _ => by simp at hl
 | a :: x, b :: y, hl, h => by
  show Op.bytesLess (a :: (x ++ u)) (b :: (y ++ v)) = true
  rw [bl_cons] at h ⊢
  rw [Bool.or_eq_true, Bool.and_eq_true] at h ⊢
  rcases h with h | ⟨h1, h2⟩
  · exact .inl h
  · exact .inr ⟨h1, bl_same u v x y (by simpa using hl) h2⟩
def ltB (x y : List UInt8) : Prop := Op.bytesLess x y = true
theorem prod_asc : ∀ r : List (List UInt8), (∀ s ∈ r, ascB s) → (prodL r).Pairwise ltB
 | [], _ => List.pairwise_singleton _ _
 | s :: r, h => by
  have ih := prod_asc r fun t ht => h t (List.mem_cons_of_mem _ ht)
  have hs := h s (List.mem_cons_self ..)
  show (s.flatMap fun c => (prodL r).map fun q => c :: q).Pairwise ltB
  rw [List.pairwise_flatMap]
  refine ⟨fun c _ => ?_, hs.imp fun {a b} hab x hx y hy => ?_⟩
  · rw [List.pairwise_map]
    exact ih.imp fun {x y} hxy => by unfold ltB at hxy ⊢; rw [bl_cons, hxy]; simp
  · obtain ⟨q, _, rfl⟩ := List.mem_map.1 hx
    obtain ⟨q', _, rfl⟩ := List.mem_map.1 hy
    unfold ltB
    rw [bl_cons, show decide (a < b) = true from decide_eq_true (UInt8.lt_iff_toNat_lt.2 hab)]
    rfl
def catL (x : List (List UInt8)) : List UInt8 := x.flatten
theorem suf_asc : ∀ rs : List (List (List UInt8)), (∀ r ∈ rs, ∀ s ∈ r, ascB s) → (sufL rs).Pairwise fun x y => ltB (catL x) (catL y)
 | [], _ => List.pairwise_singleton _ _
 | r :: rs, h => by
  have ih := suf_asc rs fun t ht => h t (List.mem_cons_of_mem _ ht)
  have hp := prod_asc r (h r (List.mem_cons_self ..))
  show ((prodL r).flatMap fun q => (sufL rs).map fun t => q :: t).Pairwise _
  rw [List.pairwise_flatMap]
  refine ⟨fun c _ => ?_, hp.imp_of_mem fun {a b} ha hb hab x hx y hy => ?_⟩
  · rw [List.pairwise_map]
    exact ih.imp fun {x y} hxy => bl_app _ _ c hxy
  · obtain ⟨q, _, rfl⟩ := List.mem_map.1 hx
    obtain ⟨q', _, rfl⟩ := List.mem_map.1 hy
    exact bl_same _ _ a b (by rw [(mem_prod.1 ha).1, (mem_prod.1 hb).1]) hab
theorem rd_asc (L : List (List (List UInt8))) : (rdL L).Pairwise fun x y => ltB (catL x) (catL y) := by
 unfold rdL chsL
 refine List.Pairwise.sublist List.filter_sublist (suf_asc _ ?_)
 intro r hr s hs
 obtain ⟨r', _, rfl⟩ := List.mem_map.1 hr
 obtain ⟨s', _, rfl⟩ := List.mem_map.1 hs
 exact sortU_asc s'
theorem rd_next (L : List (List (List UInt8))) {n : Nat} (h : n + 1 < (rdL L).length) : Op.bytesLess (catL ((rdL L).getD (n + 1) [])) (catL ((rdL L).getD n [])) = false ∧ (catL ((rdL L).getD (n + 1) []) == catL ((rdL L).getD n [])) = false := by
 have := (List.pairwise_iff_getElem.1 (rd_asc L)) n (n + 1) (by omega) h (by omega)
 rw [List.getD_eq_getElem?_getD, List.getD_eq_getElem?_getD, List.getElem?_eq_getElem h, List.getElem?_eq_getElem (show n < (rdL L).length by omega)]
 exact bl_asym _ _ this
theorem rd_mem {L : List (List (List UInt8))} {n : Nat} (h : n < (rdL L).length) : (rdL L).getD n [] ∈ chsL L ∧ parE ((rdL L).getD n []) = 0 := by
 have hm : (rdL L).getD n [] ∈ rdL L := by rw [List.getD_eq_getElem?_getD, List.getElem?_eq_getElem h]; exact List.getElem_mem _
 have := List.mem_filter.1 hm
 exact ⟨this.1, by simpa using this.2⟩
theorem take_mem2 (c : UInt8) (s : List UInt8) {j : Nat} (hj : j < s.length) : decide (c ∈ s.take (j + 1)) = (decide (c ∈ s.take j) || decide ((s.getD j 0).toNat = c.toNat)) := by
 rw [List.take_add_one, List.getElem?_eq_getElem hj, List.getD_eq_getElem?_getD, List.getElem?_eq_getElem hj]
 simp only [Option.toList_some, Option.getD_some, List.mem_append, List.mem_singleton]
 have e : (s[j].toNat = c.toNat) ↔ c = s[j] := ⟨fun h => (UInt8.toNat_inj.1 h).symm, fun h => by rw [h]⟩
 by_cases h1 : c ∈ s.take j <;> by_cases h2 : c = s[j] <;> simp [h1, h2, e]
theorem wpList_bing {P : Program} {ops : Array Oper} {rest : List Oper} {o : Oper} {a : Act} {w : World} {Q : Exit → Act → World → Prop} (hw : Region.wanted o (yielded ops a.tmps) = true) (b : BinOp) (T T2 : TypeId) (x y : Operand) (ho : o.op = .binOp b T x y T2) {v vx vy : Value} (hx : a.eval x = vx) (hy : a.eval y = vy)
 (hr : (do eqGuard b T x y vx vy; binOp b T vx vy).run P w = .ok v w) (hK : wpList P ops Q rest (a.put o.dst v) w) : wpList P ops Q (o :: rest) a w := by
 refine wpList_step fun K hK2 => ?_
 rw [if_pos hw]
 unfold Oper.wp execOp
 simp only [ho, hx, hy]
 rw [Sem.run_bind, hr]
 exact hK2 _ _ hK
theorem leq_no {x y : ByteArray} (h1 : Op.bytesLess x.toList y.toList = false) (h2 : (x.toList == y.toList) = false) (p q : Operand) (w : World) : (do eqGuard .leq 9 p q (.string x) (.string y); binOp .leq 9 (.string x) (.string y)).run Tryz.prog w = .ok (.bool false) w := by
 simp [eqGuard, binOp, go_sem, Op.stringOp, h1, h2]
theorem catL_take (x : List (List UInt8)) {i : Nat} (hi : i < x.length) : catL (x.take (i + 1)) = catL (x.take i) ++ x.getD i [] := by
 unfold catL
 have e : x.take (i + 1) = x.take i ++ [x.getD i []] := by
  rw [List.take_add_one, List.getElem?_eq_getElem hi, List.getD_eq_getElem?_getD, List.getElem?_eq_getElem hi]; rfl
 rw [e, List.flatten_append]
 simp
set_option maxHeartbeats 6400000 in
set_option maxRecDepth 40000 in
theorem p_lreads (A0 : Option Addr) (c : Nat) (x : List Int) (w : World) (hM : Mm w) (hG : TabG 0 w) (see : SeesP w (· < w.heap.size) A0 (x.map (Value.int .i64))) (m : x.length ≤ 140737488351232) (rng : ∀ y ∈ x, -9223372036854775808 ≤ y ∧ y ≤ 9223372036854775807) :
 Calls Tryz.prog 8 #[.slice A0 x.length c] w fun e w' => e = .returned (.bool true) ∧ Below w.heap.size w w' := by
 have HM := Lib.hid (show _ ∧ _ from ⟨hM, hG⟩)
 have HL := Lib.hid (made_light A0 x.length c w m)
 by_cases hx : ¬ x.length ≤ 400
 · have d : decide (x.length ≤ 400) = false := decide_eq_false hx
   rw [d] at HL
   clear hM hG see m rng hx d
   go_enter Tryz.func8, Tryz.ntmps8
   go_wp2_with (first
    | (go_at_call 16; refine HL.out.mono ?_; rintro e w' ⟨rfl, hw⟩; rw [hw]; clear hw)
    | (go_at_call 11; ((with_reducible refine (p_awake _ HM.out.1 HM.out.2).mono ?_); rintro e w1 ⟨rfl, hb⟩); have HB := Lib.hid hb; clear hb))
   go_ret
   exact ⟨rfl, HB.out⟩
 have d : decide (x.length ≤ 400) = true := decide_eq_true (Classical.not_not.1 hx)
 have HR := Lib.hid (made_roll A0 c x w m rng see)
 rw [d] at HL
 clear hM hG see m rng d hx
 go_enter Tryz.func8, Tryz.ntmps8
 go_wp2_with (first
  | (go_at_call 16; refine HL.out.mono ?_; rintro e w' ⟨rfl, hw⟩; rw [hw]; clear hw)
  | (go_at_call 18; refine HR.out.mono ?_; rintro e w1 ⟨rfl, hd1, hb1⟩))
 refine (dice_lines2 w.heap.size w1 hd1).mono ?_
 rintro e w2 ⟨ls, n, A2, hsh, hn, rfl, hs2, hg2, hd2⟩
 obtain ⟨D, hD⟩ : ∃ D, w.heap.size = D := ⟨_, rfl⟩
 have HLS := Lib.hid (lines_row hsh hs2)
 have HB2 := Lib.hid (below_row hb1 hg2)
 have HD := Lib.hid hD
 have hDl : D < w1.heap.size := by rw [← hD]; exact hd1.lt
 have HN := Lib.hid (show _ ∧ _ from ⟨hn, hsh⟩)
 have HDB := Lib.hid (fun m0 hm0 => p_doubt ls hsh w.heap.size n n 4 m0 hm0 hn (by decide) A2 w2 hd2 hs2.1)
 rw [hD] at hg2 HDB ⊢
 have HG2 := Lib.hid hg2
 have hn23 : 2 ≤ n ∧ n ≤ 3 := by rw [← hn]; exact shape_len hsh
 have hn2 := hn23.1
 have hn3 := hn23.2
 clear hd1 hb1 hs2 hg2 hd2 hsh hn hn23 HL HR
 go_wp2_with fail
 refine (HDB.out 4 rfl).mono ?_
 rintro e w3 ⟨g0, c0, cs, gR, cR, eR, L, b, rfl, hI, hO, hg3, hd3⟩
 have hbw : Below w.heap.size w w3 := below_row HB2.out (by rw [HD.out]; exact hg3)
 have HW2 := Lib.hid (show w.heap.size ≤ w2.heap.size from HB2.out.size)
 have HB := Lib.hid hbw
 have HI := Lib.hid hI
 have HO := Lib.hid hO
 have HS := Lib.hid hI.rdg
 have HSL := Lib.hid (lines_grown HLS.out hg3 hDl)
 clear HDB hbw hI hO hg3 hd3 HLS HG2 HB2 hDl
 obtain ⟨X, hXX⟩ : ∃ X, rdL L = X := ⟨_, rfl⟩
 obtain ⟨xl, hxl⟩ : ∃ xl, X.length = xl := ⟨_, rfl⟩
 have hf := HO.out.fits (by decide)
 have hL := HI.out.len
 have hce := HO.out.cnt (by decide)
 have hrd : rdsL L = rdL L := by unfold rdsL; rw [if_pos hce]
 have hX := rds_small L
 have HPR := Lib.hid (fun A c w hM hs => p_readings L hf A n c hL w hM hs)
 rw [hce, hrd, hXX, hxl] at HPR
 rw [hrd, hXX, hxl] at hX
 have HXF := Lib.hid (show _ ∧ _ from ⟨hXX, hxl⟩)
 have hxl2 := hX.1
 have HLL := Lib.hid (show L.length = n ∧ (∀ i, i < n → (L.getD i []).length ≤ 44 ∧ 30 ≤ (L.getD i []).length) from ⟨hL, fun i hi => comp_row HO.out.cm (by rw [hL]; exact hi)⟩)
 clear hf hL hce hrd hX hXX hxl
 go_wp2_with (first
  | (go_at_call 20; ((with_reducible refine (HPR.out _ _ _ (HM.out.1.on HB.out) HS.out).mono ?_); rintro e w4 ⟨A4, c4, rfl, hx, hb⟩); have HX := Lib.hid hx; replace HI := Lib.hid (HI.out.on hb); replace HB := Lib.hid (below_on HB.out hb); clear hb hx HS)
  | (go_at_call 11; ((with_reducible refine (p_awake _ (HM.out.1.on HB.out) (HM.out.2.on HB.out)).mono ?_); rintro e w10 ⟨rfl, hb⟩); replace HX := Lib.hid (HX.out.on hb); replace HI := Lib.hid (HI.out.on hb); replace HB := Lib.hid (below_on HB.out hb); clear hb))
 clear HPR HSL
 go_loopw [9, 8] (fun i v wr => ∃ (a : Nat) (LA : ByteArray), a ≤ xl ∧ i = .int .i64 (a : Int) ∧ v = .string LA ∧ LA.size ≤ 1000 ∧ Hid ((a = 0 ∨ LA = S (catL (X.getD (a - 1) []))) ∧ Rdg wr A4 X ∧ DbI w2.heap.size g0 n cs gR cR eR wr L ∧ Below w.heap.size w wr)) (fun i _ _ => xl - (intOf i).toNat)
 case atStart => exact ⟨0, ⟨#[]⟩, by omega, rfl, rfl, by decide, Lib.hid ⟨.inl rfl, HX.out, HI.out, HB.out⟩⟩
 case round =>
  clear HX HI HB
  obtain ⟨a, LA, ha, rfl, rfl, hLA, HH⟩ := hrel
  by_cases hlt : a < xl
  ·
   have ha0 : (a : Int) < (xl : Int) := by omega
   have hal : a < X.length := by rw [HXF.out.2]; exact hlt
   obtain ⟨hla, hx, hI, hb⟩ := HH.out
   have hmm := rd_mem (L := L) (n := a) (by rw [HXF.out.1]; exact hal)
   rw [HXF.out.1] at hmm
   obtain ⟨b1, o1, Ax, cx, rfl, hc1, hs1⟩ := hx.cell hal
   obtain ⟨x2, hx2⟩ : ∃ x2, X.getD a [] = x2 := ⟨_, rfl⟩
   rw [hx2] at hmm hc1 hs1
   obtain ⟨m1, m2, m3⟩ := chs_mem hmm.1
   rw [HLL.out.1] at m1 m2 m3
   obtain ⟨us, hus⟩ : ∃ us, zV (parZ x2) = us := ⟨_, rfl⟩
   have HUL : Hid (us.length = zon0.length ∧ (∀ u ∈ us, u.oneCell' = true) ∧ (Tryz.prog.info? 44).map (·.size) = some us.length) := Lib.hid (by rw [← hus]; exact ⟨rfl, zV_one _, size_z⟩)
   have hpz := p_zparse x2 Ax cx (by omega) wr (HM.out.1.on hb) hs1
   rw [zn_val, hus, hmm.2, m1] at hpz
   obtain ⟨b2, o2, rfl, hb2, hc2⟩ := hs1.cell (by omega)
   rw [m1] at hc1 hc2
   have HP := Lib.hid hpz
   have HC1 := Lib.hid (show _ ∧ _ from ⟨hc1, block_lt_of_cell hc1⟩)
   have HC2 := Lib.hid (show _ ∧ _ from ⟨hc2, hb2⟩)
   have HXM := Lib.hid (show _ ∧ _ ∧ _ ∧ _ from ⟨m1, m2, m3, hx2⟩)
   have HE := Lib.hid (show _ ∧ _ ∧ _ ∧ _ from ⟨hla, hx, hI, hb⟩)
   have HOW := Lib.hid (Own.start wr)
   clear HH hla hx hI hb hmm hc1 hs1 m1 m2 m3 hus hpz hb2 hc2 hx2 hal
   go_wp2_with (first
    | ((with_reducible refine at_load_ (d := 51) ?_); refine wpList_load_c rfl _ _ rfl b1 (o1 + a) rfl _ HC1.out.1 (fun w => by kernel_rfl) ?_)
    | (go_at_call 28; ((with_reducible refine HP.out.mono ?_); rintro e w7 ⟨rfl, hb⟩); replace HOW := Lib.hid (HOW.out.on hb); clear hb)
    | ((with_reducible refine at_alloc_ (d := 10) ?_); refine wpList_alloc_v (op := ⟨some 10, _, _, _, _, _⟩) rfl 44 rfl zon0 info_z ?_; intro g10 v10a hf hr; replace HOW := Lib.hid (HOW.out.new hf hr); clear hf hr)
    | ((with_reducible refine at_store_ (i := 10) ?_); refine wpList_store_v rfl 44 (.tmp 10) (.tmp 53) rfl g10 zon0 us rfl rfl (HOW.out.row (i := 0) rfl) HUL.out.1 HUL.out.2.1 HUL.out.2.2 ?_; intro V hw hr; replace HOW := Lib.hid (HOW.out.set (i := 0) rfl hw hr); clear hw hr)
    | ((with_reducible refine at_load_ (d := 61) ?_); refine wpList_load_cg (by rfl) _ _ rfl b1 (o1 + a) rfl _ ((HOW.out.bl.cell (p := ⟨b1, o1 + a, none⟩) HC1.out.2).trans HC1.out.1) (fun w => by kernel_rfl) ?_))
   have HV1 := Lib.hid (show _ ∧ _ from ⟨(HOW.out.bl.cell (p := ⟨b1, o1 + a, none⟩) HC1.out.2).trans HC1.out.1, Nat.lt_of_lt_of_le HC1.out.2 HOW.out.bl.size⟩)
   have HV2 := Lib.hid (show _ ∧ _ from ⟨fun i hi => (HOW.out.bl.cell (p := ⟨b2, o2 + i, none⟩) HC2.out.2).trans (HC2.out.1 i hi), Nat.lt_of_lt_of_le HC2.out.2 HOW.out.bl.size⟩)
   have HV := Lib.hid (show _ ∧ _ ∧ _ ∧ _ from ⟨HE.out.1, HE.out.2.1.on HOW.out.bl, HE.out.2.2.1.on HOW.out.bl, below_on HE.out.2.2.2 HOW.out.bl⟩)
   clear HOW HP HC1 HC2 HE HUL
   go_loopw [13, 12] (fun i v wq => ∃ (i2 : Nat) (AL : ByteArray), i2 ≤ n ∧ i = .int .i64 (i2 : Int) ∧ v = .string AL ∧ AL.size ≤ 44 * i2 ∧ Hid (AL = S (catL (x2.take i2)) ∧ Below V.heap.size V wq)) (fun i _ _ => n - (intOf i).toNat)
   case atStart => exact ⟨0, ⟨#[]⟩, by omega, rfl, rfl, by decide, Lib.hid ⟨rfl, Below.refl _ _⟩⟩
   case round =>
    obtain ⟨i2, AL, hi2, rfl, rfl, hAL, HQ⟩ := hrel
    by_cases hin : i2 < n
    ·
     have hin0 : (i2 : Int) < (n : Int) := by omega
     have hI := HV.out.2.2.1
     have hb := HQ.out.2
     have hl44 := HLL.out.2 i2 hin
     have hxr := HXM.out.2.1 i2 hin
     have c1 := (hb.cell (p := ⟨b1, o1 + a, none⟩) HV1.out.2).trans HV1.out.1
     have c2 := (hb.cell (p := ⟨b2, o2 + i2, none⟩) HV2.out.2).trans (HV2.out.1 i2 hin)
     have c3 := (hb.cell (p := ⟨g0, i2, none⟩) hI.r0.lt).trans (hI.cell0 hin)
     obtain ⟨y, hy⟩ : ∃ y, x2.getD i2 [] = y := ⟨_, rfl⟩
     obtain ⟨r, hr⟩ : ∃ r, L.getD i2 [] = r := ⟨_, rfl⟩
     obtain ⟨ln, hln⟩ : ∃ ln, r.length = ln := ⟨_, rfl⟩
     rw [hr, hln] at hl44 c3
     rw [hy, hr, hln] at hxr
     rw [hy] at c2
     obtain ⟨sy, hsy⟩ : ∃ sy, S y = sy := ⟨_, rfl⟩
     have hsyz : sy.size = ln := by rw [← hsy, S_size, hxr]
     have hsyi : (sy.size : Int) = (ln : Int) := by omega
     rw [hsy] at c2
     have l1 := fun (d : Nat) (os : Array Obj) => cell_regrown c1 d os
     have l2 := fun (d : Nat) (os : Array Obj) => cell_regrown c2 d os
     have l3 := fun (d : Nat) (os : Array Obj) => cell_regrown c3 d os
     have hl1 := hl44.1
     have HY := Lib.hid (show _ ∧ _ ∧ _ ∧ _ ∧ _ from ⟨hy, hr, hln, hsy, hxr⟩)
     clear hI hb hl44 hxr c1 c2 c3 hy hr hln hsy
     go_wp2_with fail
     refine wp_region_quiet_below (by kernel_rfl) (by kernel_rfl) ?_
     repeat (first | go_big_quiet_skip | (go_big_quiet_want; go_big_quiet_op; go_big_quiet_on) | quiet_step (fail))
     refine wpQuiet_nil ?_
     intro w3 hw3
     have HB3 := Lib.hid (below_on HQ.out.2 (below_of_regrown hw3))
     clear hw3 l1 l2 l3
     go_wp2
     go_loopw [14] (fun i wq => ∃ (k : Nat), k ≤ ln ∧ i = .int .i64 (k : Int) ∧ Hid (Below V.heap.size V wq)) (fun i _ => ln - (intOf i).toNat)
     case atStart => exact ⟨0, by omega, rfl, HB3⟩
     case round =>
      clear HB3
      obtain ⟨k, hk, rfl, HB3⟩ := hrel
      have HC3 := Lib.hid (show _ from (HB3.out.cell (p := ⟨g0, i2, none⟩) HV.out.2.2.1.r0.lt).trans (HV.out.2.2.1.cell0 hin))
      rw [HY.out.2.1, HY.out.2.2.1] at HC3
      by_cases hkl : k < ln
      ·
       have hkl0 : (k : Int) < (ln : Int) := by omega
       have hkr : k < (L.getD i2 []).length := by rw [HY.out.2.1, HY.out.2.2.1]; exact hkl
       have HC4 := Lib.hid (show _ from (HV.out.2.2.1.cell1 hin hkr))
       have hmem := HXM.out.2.2.1 i2 hin k hkr
       have hst := HO.out.st i2 k
       obtain ⟨s, hs⟩ : ∃ s, (L.getD i2 []).getD k [] = s := ⟨_, rfl⟩
       obtain ⟨sl, hsl⟩ : ∃ sl, s.length = sl := ⟨_, rfl⟩
       obtain ⟨ss, hss⟩ : ∃ ss, S s = ss := ⟨_, rfl⟩
       rw [hs, hsl] at hst
       rw [hs, hss] at HC4
       rw [hs, HY.out.1] at hmem
       obtain ⟨ch, hch⟩ : ∃ ch, y.getD k 0 = ch := ⟨_, rfl⟩
       rw [hch] at hmem
       have hssz : ss.size = sl := by rw [← hss, S_size, hsl]
       have hssi : (ss.size : Int) = (sl : Int) := by omega
       have HIS : Hid (∀ j, j < sl → ∀ w, (Instr.index 9 (.string ss) (.int .i64 (j : Int))).run Tryz.prog w = .ok (.int .u8 ((s.getD j 0).toNat : Int)) w) := Lib.hid (by rw [← hss, ← hsl]; exact fun j hj w => str_byte s j hj w)
       have HIY : Hid (∀ w, (Instr.index 9 (.string sy) (.int .i64 (k : Int))).run Tryz.prog w = .ok (.int .u8 (ch.toNat : Int)) w) := Lib.hid (by
        rw [← HY.out.2.2.2.1, ← hch]
        exact fun w => str_byte y k (by rw [HY.out.2.2.2.2]; exact hkl) w)
       have HSM := Lib.hid (show _ ∧ _ from ⟨hmem, hsl⟩)
       have HBK := HB3
       clear hmem hs hsl hss hch hkr
       go_wp2_with (first
        | ((with_reducible refine at_load_ (d := 91) ?_); refine wpList_load_c rfl _ _ rfl g0 i2 rfl _ HC3.out (fun w => by kernel_rfl) ?_))
       clear HC3
       go_loopw [16, 15] (fun i v wq => ∃ (j : Nat) (bI : Bool), j ≤ sl ∧ i = .int .i64 (j : Int) ∧ v = .bool bI ∧ Hid (decide (ch ∈ s.take j) = bI ∧ Below V.heap.size V wq)) (fun i _ _ => sl - (intOf i).toNat)
       case atStart => exact ⟨0, false, by omega, rfl, rfl, Lib.hid ⟨by simp, HB3.out⟩⟩
       case round =>
        clear HB3 HBK
        obtain ⟨j, bI, hj, rfl, rfl, HJ⟩ := hrel
        have hbj := HJ.out.2
        have c1 := (hbj.cell (p := ⟨b1, o1 + a, none⟩) HV1.out.2).trans HV1.out.1
        have c2 := (hbj.cell (p := ⟨b2, o2 + i2, none⟩) HV2.out.2).trans (HV2.out.1 i2 hin)
        have c3 := (hbj.cell (p := ⟨g0, i2, none⟩) HV.out.2.2.1.r0.lt).trans (HV.out.2.2.1.cell0 hin)
        have c4 := (hbj.cell (p := ⟨gR i2, k, none⟩) (HV.out.2.2.1.rw i2 hin).2.2.lt).trans HC4.out
        rw [HY.out.1, HY.out.2.2.2.1] at c2
        rw [HY.out.2.1, HY.out.2.2.1] at c3
        have HC3 := Lib.hid c3
        have HC5 := Lib.hid c4
        by_cases hjl : j < sl
        ·
         have hjl0 : (j : Int) < (sl : Int) := by omega
         have htm := take_mem2 ch s (j := j) (by rw [HSM.out.2]; exact hjl)
         have ix1 := HIS.out j hjl
         have ix2 := HIY.out
         obtain ⟨bj, hbj2⟩ : ∃ bj, (s.getD j 0).toNat = bj := ⟨_, rfl⟩
         obtain ⟨bc, hbc⟩ : ∃ bc, ch.toNat = bc := ⟨_, rfl⟩
         rw [hbj2] at ix1 htm
         rw [hbc] at ix2 htm
         rw [HJ.out.1] at htm
         obtain ⟨bq, hbq⟩ : ∃ bq, decide (bj = bc) = bq := ⟨_, rfl⟩
         rw [hbq] at htm
         have l1 := fun (d : Nat) (os : Array Obj) => cell_regrown c1 d os
         have l2 := fun (d : Nat) (os : Array Obj) => cell_regrown c2 d os
         have l3 := fun (d : Nat) (os : Array Obj) => cell_regrown c3 d os
         have l4 := fun (d : Nat) (os : Array Obj) => cell_regrown c4 d os
         have HT := Lib.hid (show _ ∧ _ from ⟨htm, hbj⟩)
         clear htm hbj2 hbc c1 c2 c3 c4 hbj
         rcases bI with _ | _
         ·
          by_cases hbb : bj = bc
          ·
           subst hbb
           have HBQ := Lib.hid (show bq = true by rw [← hbq]; simp)
           clear hbq
           go_wp2_with (first
            | ((with_reducible refine at_load_ (d := 100) ?_); refine wpList_load_c rfl _ _ rfl g0 i2 rfl _ HC3.out (fun w => by kernel_rfl) ?_)
            | ((with_reducible refine at_load_ (d := 103) ?_); refine wpList_load_c rfl _ _ rfl (gR i2) k rfl _ HC5.out (fun w => by kernel_rfl) ?_)
            | fail)
           refine wp_region_quiet_below (by kernel_rfl) (by kernel_rfl) ?_
           repeat (first | go_big_quiet_skip | (go_big_quiet_want; go_big_quiet_op; go_big_quiet_on) | quiet_step (fail))
           refine wpQuiet_nil ?_
           intro w5 hw5
           have H5 := Lib.hid (below_on HT.out.2 (below_of_regrown hw5))
           clear hw5 l1 l2 l3 l4
           go_wp2_with (first
            | ((with_reducible refine at_any_ (d := 107) ?_); refine wpList_add1 rfl _ _ _ rfl j rfl rfl (by omega) ?_))
           go_roundw
           case rel => exact ⟨j + 1, true, by omega, by first | rfl | go_num, by first | rfl | simp, Lib.hid ⟨by rw [HT.out.1, HBQ.out]; rfl, H5.out⟩⟩
           case measure => simp [intOf]; omega
          ·
           have HBQ := Lib.hid (show bq = false by rw [← hbq]; simpa using hbb)
           have hn1 : ¬ ((bj : Int) = (bc : Int)) := by omega
           have hn2 : ((bj : Int) == (bc : Int)) = false := by simpa using hn1
           clear hbq
           go_wp2_with (first
            | ((with_reducible refine at_load_ (d := 100) ?_); refine wpList_load_c rfl _ _ rfl g0 i2 rfl _ HC3.out (fun w => by kernel_rfl) ?_)
            | ((with_reducible refine at_load_ (d := 103) ?_); refine wpList_load_c rfl _ _ rfl (gR i2) k rfl _ HC5.out (fun w => by kernel_rfl) ?_)
            | fail)
           refine wp_region_quiet_below (by kernel_rfl) (by kernel_rfl) ?_
           repeat (first | go_big_quiet_skip | (go_big_quiet_want; go_big_quiet_op; go_big_quiet_on) | quiet_step (fail))
           refine wpQuiet_nil ?_
           intro w5 hw5
           have H5 := Lib.hid (below_on HT.out.2 (below_of_regrown hw5))
           clear hw5 l1 l2 l3 l4
           go_wp2_with (first
            | ((with_reducible refine at_any_ (d := 107) ?_); refine wpList_add1 rfl _ _ _ rfl j rfl rfl (by omega) ?_))
           go_roundw
           case rel => exact ⟨j + 1, false, by omega, by first | rfl | go_num, by first | rfl | simp [*], Lib.hid ⟨by rw [HT.out.1, HBQ.out]; rfl, H5.out⟩⟩
           case measure => simp [intOf]; omega
         ·
          clear hbq
          go_wp2_with (first
           | ((with_reducible refine at_load_ (d := 100) ?_); refine wpList_load_c rfl _ _ rfl g0 i2 rfl _ HC3.out (fun w => by kernel_rfl) ?_)
           | ((with_reducible refine at_load_ (d := 103) ?_); refine wpList_load_c rfl _ _ rfl (gR i2) k rfl _ HC5.out (fun w => by kernel_rfl) ?_)
           | fail)
          refine wp_region_quiet_below (by kernel_rfl) (by kernel_rfl) ?_
          repeat (first | go_big_quiet_skip | (go_big_quiet_want; go_big_quiet_op; go_big_quiet_on) | quiet_step (fail))
          refine wpQuiet_nil ?_
          intro w5 hw5
          have H5 := Lib.hid (below_on HT.out.2 (below_of_regrown hw5))
          clear hw5 l1 l2 l3 l4
          go_wp2_with (first
           | ((with_reducible refine at_any_ (d := 107) ?_); refine wpList_add1 rfl _ _ _ rfl j rfl rfl (by omega) ?_))
          go_roundw
          case rel => exact ⟨j + 1, true, by omega, by first | rfl | go_num, by first | rfl | simp, Lib.hid ⟨by rw [HT.out.1]; rfl, H5.out⟩⟩
          case measure => simp [intOf]; omega
        · obtain rfl : j = sl := by omega
          have hbt : bI = true := by
           rw [← HJ.out.1, decide_eq_true_iff, List.take_of_length_le (by rw [HSM.out.2]; exact Nat.le_refl _)]
           exact HSM.out.1
          subst hbt
          clear c1 c2 c3 c4 hbj
          go_wp2_with (first
           | ((with_reducible refine at_load_ (d := 100) ?_); refine wpList_load_c rfl _ _ rfl g0 i2 rfl _ HC3.out (fun w => by kernel_rfl) ?_)
           | ((with_reducible refine at_load_ (d := 103) ?_); refine wpList_load_c rfl _ _ rfl (gR i2) k rfl _ HC5.out (fun w => by kernel_rfl) ?_)
           | ((with_reducible refine at_any_ (d := 95) ?_); refine wpList_add1 rfl _ _ _ rfl k rfl rfl (by omega) ?_))
          go_roundw
          case rel => exact ⟨k + 1, by omega, by first | rfl | go_num, Lib.hid HJ.out.2⟩
          case measure => simp [intOf]; omega
      ·
       obtain rfl : k = ln := by omega
       have hb := HB3.out
       have c1 := (hb.cell (p := ⟨b1, o1 + a, none⟩) HV1.out.2).trans HV1.out.1
       have c2 := (hb.cell (p := ⟨b2, o2 + i2, none⟩) HV2.out.2).trans (HV2.out.1 i2 hin)
       rw [HY.out.1, HY.out.2.2.2.1] at c2
       have HC1 := Lib.hid c1
       have HC2 := Lib.hid c2
       clear hb c1 c2
       go_wp2_with (first
        | ((with_reducible refine at_load_ (d := 91) ?_); refine wpList_load_c rfl _ _ rfl g0 i2 rfl _ HC3.out (fun w => by kernel_rfl) ?_)
        | ((with_reducible refine at_load_ (d := 136) ?_); refine wpList_load_c rfl _ _ rfl b1 (o1 + a) rfl _ HC1.out (fun w => by kernel_rfl) ?_)
        | ((with_reducible refine at_load_ (d := 139) ?_); refine wpList_load_c rfl _ _ rfl b2 (o2 + i2) rfl _ HC2.out (fun w => by kernel_rfl) ?_)
        | ((with_reducible refine at_any_ (d := 72) ?_); refine wpList_add1 rfl _ _ _ rfl i2 rfl rfl (by omega) ?_))
       go_roundw
       case rel =>
        refine ⟨i2 + 1, AL ++ sy, by omega, by first | rfl | go_num, rfl, by rw [ByteArray.size_append]; omega, Lib.hid ⟨?_, HB3.out⟩⟩
        rw [HQ.out.1, catL_take x2 (by rw [HXM.out.1]; exact hin), HY.out.1, ← HY.out.2.2.2.1, S_append]
       case measure => simp [intOf]; omega
    ·
     obtain rfl : i2 = n := by omega
     have hAL2 : AL = S (catL x2) := by rw [HQ.out.1, List.take_of_length_le (by rw [HXM.out.1]; exact Nat.le_refl _)]
     have HF := Lib.hid (show _ ∧ _ ∧ _ ∧ _ from ⟨hAL2, HV.out.2.1.on HQ.out.2, HV.out.2.2.1.on HQ.out.2, below_on HV.out.2.2.2 HQ.out.2⟩)
     by_cases ha1 : a = 0
     · subst ha1
       clear hAL2
       go_wp2_with (first
        | ((with_reducible refine at_any_ (d := 46) ?_); refine wpList_add1 rfl _ _ _ rfl 0 rfl rfl (by omega) ?_))
       go_roundw
       case rel => exact ⟨1, AL, by omega, by first | rfl | go_num, rfl, by omega, Lib.hid ⟨.inr (by rw [HF.out.1, ← HXM.out.2.2.2]), HF.out.2.1, HF.out.2.2.1, HF.out.2.2.2⟩⟩
       case measure => simp [intOf]; omega
     ·
      have ha2 : (0 : Int) < (a : Int) := by omega
      have hla : LA = S (catL (X.getD (a - 1) [])) := HV.out.1.resolve_left ha1
      have hnx := rd_next L (n := a - 1) (by rw [HXF.out.1, HXF.out.2]; omega)
      rw [HXF.out.1, show a - 1 + 1 = a by omega, HXM.out.2.2.2] at hnx
      have hle1 : Op.bytesLess AL.toList LA.toList = false := by rw [hAL2, hla, S_toList, S_toList]; exact hnx.1
      have hle2 : (AL.toList == LA.toList) = false := by rw [hAL2, hla, S_toList, S_toList]; exact hnx.2
      have HLE := Lib.hid (fun p q w => leq_no hle1 hle2 p q w)
      clear hAL2 hla hnx hle1 hle2
      go_wp2_with (first
       | ((with_reducible refine at_any_ (d := 146) ?_); refine wpList_bing (by rfl) _ _ _ _ _ rfl (v := .bool false) rfl rfl (HLE.out _ _ _) ?_)
       | ((with_reducible refine at_any_ (d := 46) ?_); refine wpList_add1 rfl _ _ _ rfl a rfl rfl (by omega) ?_))
      go_roundw
      case rel => exact ⟨a + 1, AL, by omega, by first | rfl | go_num, rfl, by omega, Lib.hid ⟨.inr (by rw [HF.out.1, show a + 1 - 1 = a by omega, HXM.out.2.2.2]), HF.out.2.1, HF.out.2.2.1, HF.out.2.2.2⟩⟩
      case measure => simp [intOf]; omega
  · obtain rfl : a = xl := by omega
    go_wp2
    go_ret
    exact ⟨by first | rfl | simp, HH.out.2.2.2⟩
end Go.Proofs.YtibahbkjjfmbgaaGreatDoor
