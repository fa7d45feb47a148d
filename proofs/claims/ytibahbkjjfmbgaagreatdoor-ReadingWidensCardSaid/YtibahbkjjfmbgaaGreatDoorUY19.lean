/-
  What is proved here: plain facts: a digit that is replaced in the lines of a valid zone is noticed by the composite check digit; the key of a zone is in its lines.
-/
import Derived.Test.YtibahbkjjfmbgaaGreatDoorUY16
import Derived.Test.YtibahbkjjfmbgaaGreatDoorUY18
import Derived.Test.YtibahbkjjfmbgaaGreatDoorUA2
import Derived.Test.YtibahbkjjfmbgaaGreatDoorUY7
import Derived.Deep.DeepCutAuto
namespace Go.Proofs.YtibahbkjjfmbgaaGreatDoor
open Go.RowKit Go.Maps
set_option linter.unusedVariables false
section
variable {z : Zn}
theorem vE_mk (h1 : 1 ≤ z.fm ∧ z.fm ≤ 3) (h2 : codeB z.kd 2 = true) (h3 : codeB z.st 3 = true) (h4 : z.su ≠ [] ∧ nameL z.su = true) (h5 : nameL z.gi = true) (h6 : z.nu ≠ [] ∧ plainB z.nu = true) (h7 : z.nu.length ≤ maxN z.fm) (h8 : codeB z.na 3 = true) (h9 : birthB z.bi = true)
 (h10 : sexB z.sx = true) (h11 : expB z.ex = true) (h12 : extraB z.op = true) (h13 : extraB z.se = true) (h14 : ¬ (z.se ≠ [] ∧ z.fm ≠ 1)) (h15 : needN z ≤ optN z.fm ∧ z.se.length ≤ 11) : vE z = 0 := by
 have e1 : vE1 z = true := by
  unfold vE1
  simp only [Bool.and_eq_true, decide_eq_true_eq]
  exact ⟨h1, h2, h3, h4.2, h4.1, h5, h6.1, h6.2⟩
 unfold vE
 rw [if_neg (by rw [e1]; decide), if_neg (by omega), if_neg (by rw [h8]; decide), if_neg (by rw [h9]; decide), if_neg (by rw [h10]; decide), if_neg (by rw [h11]; decide), if_neg (by rw [h12, h13]; simpa using h14), if_neg (by omega)]
end
def OneIs (w : World) (D : Nat) (e : Ending) (w' : World) : Prop := ∃ q : Bool, e = .returned (.bool q) ∧ w.grownBy w' (some D) ∧ DiceOk w' D
theorem dice_one (D n : Nat) (w : World) (hn : 0 < n) (hn2 : n ≤ 4611686018427387903) (h : DiceOk w D) :
 Calls Tryz.prog 48 #[.pointer (some ⟨D, 0, none⟩), .int .i64 (n : Int)] w (OneIs w D) := by
 have HN := Lib.hid (dice_next D n w hn hn2 h)
 clear h
 go_enter Tryz.func48, Tryz.ntmps48
 go_wp2_with fail
 refine HN.out.mono ?_
 rintro e w1 ⟨r, hr, rfl, hg, hd⟩
 have HF := Lib.hid (show _ ∧ _ from ⟨hg, hd⟩)
 clear hg hd
 go_wp2_with fail
 go_ret
 exact ⟨_, rfl, HF.out.1, HF.out.2⟩
theorem dice_next_l (D n : Nat) (m : Int) (w : World) (hm : (n : Int) = m) (hn : 0 < n) (hn2 : n ≤ 1000000) (h : DiceOk w D) :
 Calls Tryz.prog 47 #[.pointer (some ⟨D, 0, none⟩), .int .i64 m] w (NextIs w D n) := by
 subst hm; exact dice_next D n w hn (by omega) h
theorem dice_one_l (D n : Nat) (m : Int) (w : World) (hm : (n : Int) = m) (hn : 0 < n) (hn2 : n ≤ 1000000) (h : DiceOk w D) :
 Calls Tryz.prog 48 #[.pointer (some ⟨D, 0, none⟩), .int .i64 m] w (OneIs w D) := by
 subst hm; exact dice_one D n w hn (by omega) h
theorem dice_name_l (D n : Nat) (m : Int) (w : World) (hm : (n : Int) = m) (hn2 : n ≤ 1000) (h : DiceOk w D) :
 Calls Tryz.prog 78 #[.pointer (some ⟨D, 0, none⟩), .int .i64 m] w (NameIs w D n) := by
 subst hm; exact dice_name D n w hn2 h
theorem dice_signs_l (D n : Nat) (m : Int) (w : World) (hm : (n : Int) = m) (hn : 1 ≤ n) (hn2 : n ≤ 1000) (h : DiceOk w D) :
 Calls Tryz.prog 79 #[.pointer (some ⟨D, 0, none⟩), .int .i64 m] w (SignsIs w D n) := by
 subst hm; exact dice_signs D n w hn2 hn h
theorem dice_day (D : Nat) (w : World) (h : DiceOk w D) :
 Calls Tryz.prog 81 #[.pointer (some ⟨D, 0, none⟩)] w (NextIs w D 72900) := by
 have HN := Lib.hid (dice_next_l D 243 243 w rfl (by decide) (by decide) h)
 clear h
 go_enter Tryz.func81, Tryz.ntmps81
 go_wp2_with fail
 refine HN.out.mono ?_
 rintro e w1 ⟨r, hr, rfl, hg, hd⟩
 have HF := Lib.hid hg
 have HN2 := Lib.hid (dice_next_l D 300 300 w1 rfl (by decide) (by decide) hd)
 clear hg hd HN
 go_wp2_with fail
 refine HN2.out.mono ?_
 rintro e w2 ⟨q, hq, rfl, hg, hd⟩
 have HF2 := Lib.hid (show _ ∧ _ from ⟨grown_trans HF.out hg, hd⟩)
 clear hg hd HN2 HF
 go_wp2_with fail
 go_ret
 exact ⟨r * 300 + q, by omega, by go_num, HF2.out.1, HF2.out.2⟩
theorem sgn_valid {x : List UInt8} (h : ∀ c ∈ x, sgnB c = true) : validL x = true ∧ noFill x = true := by
 refine ⟨?_, ?_⟩
 · unfold validL
   rw [List.all_eq_true]
   intro c hc
   have := of_decide_eq_true (h c hc)
   rw [decide_eq_true_eq]
   rcases this with h1 | h1
   · rw [vI_1 (by omega) (by omega)]; omega
   · rw [vI_2 (by omega) (by omega)]; omega
 · unfold noFill
   rw [decide_eq_true_eq]
   intro i hi e
   rw [cB_get hi] at e
   have := of_decide_eq_true (h _ (List.getElem_mem hi))
   omega
theorem sgn_num {x : List UInt8} (h : ∀ c ∈ x, sgnB c = true) : plainB x = true := by
 unfold plainB
 rw [(sgn_valid h).1, (sgn_valid h).2]; rfl
theorem sgn_extra {x : List UInt8} (h : ∀ c ∈ x, sgnB c = true) : extraB x = true := by
 unfold extraB
 rw [(sgn_valid h).1, Bool.true_and, decide_eq_true_eq]
 rcases hx : x with _ | ⟨a, r⟩
 · exact .inl rfl
 · rw [← hx]
   have hf := of_decide_eq_true (sgn_valid h).2
   exact .inr ⟨hf 0 (by rw [hx]; simp), hf (x.length - 1) (by rw [hx]; simp)⟩
theorem day_text {n : Nat} (hn : n < 72900) : birthB (fL (n : Int)) = true ∧ (fL (n : Int)).length = 6 := by
 obtain ⟨y, m, d, h⟩ := dt_of (n : Int) (by omega) (by omega)
 obtain ⟨r1, r2, r3, r4⟩ := f_read h
 obtain ⟨h1, h2, h3, h4, h5, h6, h7, h8, h9⟩ := h
 have hb := Cal.dim_bd y m
 have hs : (fL (n : Int)).length = 6 := by
  have := of_decide_eq_true ((Bool.and_eq_true _ _).mp r1).1
  rwa [S_size] at this
 refine ⟨?_, hs⟩
 have hd : ∀ j, j < 6 → 48 ≤ cB (fL (n : Int)) j ∧ cB (fL (n : Int)) j ≤ 57 := fun j hj => by
  have := ((Bool.and_eq_true _ _).mp r1).2
  rw [List.all_eq_true] at this
  have h0 := dig_bd (this j (List.mem_range.2 hj))
  rw [ch_S] at h0
  unfold cB; omega
 have hp : ∀ j, j < 3 → pairN (fL (n : Int)) (2 * j) = pr (S (fL (n : Int))) 6 j := fun j hj => by
  have a := hd (2 * j) (by omega)
  have b := hd (2 * j + 1) (by omega)
  unfold pairN pr
  rw [if_neg (by omega), if_neg (by omega), if_neg (by omega), if_neg (by omega), ch_S, ch_S]
  unfold cB
  omega
 have p0 := hp 0 (by decide)
 have p1 := hp 1 (by decide)
 have p2 := hp 2 (by decide)
 rw [r2] at p0
 rw [r3] at p1
 rw [r4] at p2
 unfold birthB
 simp only [Bool.and_eq_true, decide_eq_true_eq]
 have e0 : pairN (fL (n : Int)) 0 = y % 100 := p0
 have e1 : pairN (fL (n : Int)) 2 = m := p1
 have e2 : pairN (fL (n : Int)) 4 = d := p2
 rw [e0, e1, e2]
 refine ⟨hs, by omega, .inr ⟨h5, h6⟩, .inr ⟨h7, by omega⟩⟩
theorem exp_text {n : Nat} (hn : n < 36000) : expB (fL (36524 + (n : Int))) = true ∧ (fL (36524 + (n : Int))).length = 6 := by
 obtain ⟨y, m, d, h⟩ := dt_of (36524 + (n : Int)) (by omega) (by omega)
 have r1 := (f_read h).1
 have hs : (fL (36524 + (n : Int))).length = 6 := by
  have := of_decide_eq_true ((Bool.and_eq_true _ _).mp r1).1
  rwa [S_size] at this
 have hy : 2000 ≤ y := by
  obtain ⟨h1, h2, h3, h4, h5, h6, h7, h8, h9⟩ := h
  refine Classical.byContradiction fun hc => ?_
  have a1 := Cal.ys_mono y 2000 h3 (by omega)
  have a2 : Cal.ys 2000 = 36524 := by decide
  have a3 := Cal.cum_succ y m h5 h6
  have a4 : Cal.cum y (m + 1) ≤ 365 + Cal.lp y := by
   rcases Int.lt_or_eq_of_le h6 with q | q
   · have := Cal.cum_lt y (m + 1) 13 (by omega) (by omega) (by decide)
     rw [Cal.cum_end] at this; omega
   · rw [q]
     show Cal.cum y 13 ≤ _
     rw [Cal.cum_end]; omega
  have a5 := Cal.ys_succ y h3 (by omega)
  have a6 : Cal.ys (y + 1) ≤ 36524 := by
   rcases Int.lt_or_eq_of_le (show y + 1 ≤ 2000 by omega) with q | q
   · have := Cal.ys_mono (y + 1) 2000 (by omega) q; omega
   · rw [q, a2]; omega
  unfold Cal.num at h9
  omega
 refine ⟨?_, hs⟩
 unfold expB
 rw [decide_eq_true_eq]
 have h4 := h.2.2.2.1
 exact (ps_in h (by decide) (by decide) hy (by omega)).2
def kindsL : List (List UInt8) := [[80], [73, 68], [86], [65, 67]]
def statesL : List (List UInt8) := [[85, 84, 79], [68], [88, 88], [65, 66, 67]]
def birthsL : List (List UInt8) := [[60, 60, 60, 60, 60, 60], [56, 53, 60, 60, 60, 60], [56, 53, 49, 50, 60, 60], [60, 60, 48, 49, 51, 49], [48, 48, 48, 50, 60, 60]]
def sexesL : List (List UInt8) := [[77], [70], [60]]
def rowS (l : List (List UInt8)) : Array Value := (l.map fun x => Value.string (S x)).toArray
theorem rowS_cell (l : List (List UInt8)) (j : Nat) (hj : j < l.length) : (rowS l)[j]? = some (.string (S (l.getD j []))) := by simp [rowS, hj]
theorem kinds_ok (j : Nat) (hj : j < 4) : codeB (kindsL.getD j []) 2 = true := by
 have : ∀ j : _root_.Fin 4, codeB (kindsL.getD j.val []) 2 = true := by decide
 exact this ⟨j, hj⟩
theorem states_ok (j : Nat) (hj : j < 4) : codeB (statesL.getD j []) 3 = true := by
 have : ∀ j : _root_.Fin 4, codeB (statesL.getD j.val []) 3 = true := by decide
 exact this ⟨j, hj⟩
theorem births_ok (j : Nat) (hj : j < 5) : birthB (birthsL.getD j []) = true := by
 have : ∀ j : _root_.Fin 5, birthB (birthsL.getD j.val []) = true := by decide
 exact this ⟨j, hj⟩
theorem sexes_ok (j : Nat) (hj : j < 3) : sexB (sexesL.getD j []) = true := by
 have : ∀ j : _root_.Fin 3, sexB (sexesL.getD j.val []) = true := by decide
 exact this ⟨j, hj⟩
structure Mk2 (w : World) (D : Nat) (cur : World) (g2 g3 : Nat) (us : List Value) : Prop where
 gr : w.grownBy cur (some D)
 dk : DiceOk cur D
 dl : D < w.heap.size
 h2 : w.heap.size ≤ g2
 h3 : w.heap.size ≤ g3
 ne : g2 ≠ g3
 r2 : RowV cur g2 zon0
 r3 : RowV cur g3 us
section
variable {w cur cur' : World} {D g2 g3 : Nat} {us us' : List Value}
theorem RowV.grown {w w' : World} {g : Nat} {vs : List Value} {row : Option Nat} (h : RowV w g vs) (hg : w.grownBy w' row) (hne : row ≠ some g) : RowV w' g vs := h.same (hg.block g h.lt (fun e => hne e.symm))
theorem Mk2.dice (h : Mk2 w D cur g2 g3 us) (hg : cur.grownBy cur' (some D)) (hd : DiceOk cur' D) : Mk2 w D cur' g2 g3 us :=
 ⟨grown_trans h.gr hg, hd, h.dl, h.h2, h.h3, h.ne, h.r2.grown hg (by intro e; injection e with e; have := h.h2; have := h.dl; omega), h.r3.grown hg (by intro e; injection e with e; have := h.h3; have := h.dl; omega)⟩
theorem Mk2.bl (h : Mk2 w D cur g2 g3 us) (hb : Below cur.heap.size cur cur') : Mk2 w D cur' g2 g3 us :=
 ⟨grown_row (row := none) h.gr (grown_below hb) (fun g e => by cases e), h.dk.below hb, h.dl, h.h2, h.h3, h.ne, h.r2.on hb, h.r3.on hb⟩
theorem Mk2.alloc (h : Mk2 w D cur g2 g3 us) (o : Obj) : Mk2 w D (cur.alloc o) g2 g3 us := h.bl ((Below.refl _ _).alloc (Nat.le_refl _) o)
theorem grown_wr {a b : World} {g : Nat} (h : Wr a b g) : a.grownBy b (some g) := ⟨h.1, h.2.1, h.2.2.1, Nat.le_of_eq h.2.2.2.1.symm, fun k hk hne => h.2.2.2.2 k (fun e => hne (by rw [e]))⟩
theorem Mk2.put (h : Mk2 w D cur g2 g3 us) (hw : Wr cur cur' g3) (hr : RowV cur' g3 us') : Mk2 w D cur' g2 g3 us' :=
 ⟨grown_row h.gr (grown_wr hw) (fun g e => by injection e with e; have := h.h3; omega), h.dk.grown (grown_wr hw) (fun g e => by injection e with e; have := h.h3; have := h.dl; omega), h.dl, h.h2, h.h3, h.ne, h.r2.wr hw h.ne, hr⟩
theorem Mk2.res (h : Mk2 w D cur g2 g3 us) (hw : Wr cur cur' g2) : w.grownBy cur' (some D) ∧ DiceOk cur' D :=
 ⟨grown_row h.gr (grown_wr hw) (fun g e => by injection e with e; have := h.h2; omega), h.dk.grown (grown_wr hw) (fun g e => by injection e with e; have := h.h2; have := h.dl; omega)⟩
theorem Mk2.start {w w1 w2 w3 w4 : World} {D g2 g3 : Nat} {vs : List Value} (h : DiceOk w D) (hf : Fresh w w1 g2) (hr : RowV w1 g2 zon0) (hg : w1.grownBy w2 (some D)) (hd : DiceOk w2 D) (hf3 : Fresh w2 w3 g3) (hw : Wr w3 w4 g3) (hr4 : RowV w4 g3 vs) : Mk2 w D w4 g2 g3 vs := by
 have hl := h.lt
 have e2 : g2 = w.heap.size := hf.1
 have hs := hr.lt
 have hs1 := hf.bw.size
 have hs2 := hg.size
 have e3 : g3 = w2.heap.size := hf3.1
 have hgr : w.grownBy w2 (some D) := grown_trans (grown_row (row := none) (World.grownBy.refl _ _) (grown_below hf.bw) (fun g e => by cases e)) hg
 have r2 : RowV w2 g2 zon0 := hr.grown hg (by intro e; injection e with e; omega)
 have b3 : Below w2.heap.size w2 w3 := hf3.bw
 refine ⟨grown_row (grown_row (row := none) hgr (grown_below b3) (fun g e => by cases e)) (grown_wr hw) (fun g e => by injection e with e; omega), (hd.below b3).grown (grown_wr hw) (fun g e => by injection e with e; omega), hl, by omega, by omega, by omega, (r2.on b3).wr hw (by omega), hr4⟩
theorem Mk2.pick {l : List (List UInt8)} {t : TypeId} {w1 : World} (h : Mk2 w D cur g2 g3 us) (hg : (cur.alloc (.cells (rowS l) t)).grownBy w1 (some D)) (hd : DiceOk w1 D) {j : Nat} (hj : j < l.length) :
 Mk2 w D w1 g2 g3 us ∧ w1.cell? ⟨cur.heap.size, j, none⟩ = some (.string (S (l.getD j []))) := by
 refine ⟨(h.alloc _).dice hg hd, ?_⟩
 have hrow : (cur.alloc (.cells (rowS l) t)).heap[cur.heap.size]? = some (.cells (rowS l) t (0, 0)) := heap_alloc_new cur _
 have hrow1 : w1.heap[cur.heap.size]? = some (.cells (rowS l) t (0, 0)) := (hg.block _ (lt_of_block hrow) (by
  intro e; injection e with e
  have := h.dl
  have := h.gr.size
  omega)).trans hrow
 exact (cell_of_row w1 _ j _ _ _ hrow1).trans (rowS_cell l j hj)
end
theorem opt_cases {f : Int} (hf : 1 ≤ f ∧ f ≤ 3) : optN f = 15 ∧ f = 1 ∨ optN f = 7 ∧ f = 2 ∨ optN f = 14 ∧ f = 3 := by
 have h : f = 1 ∨ f = 2 ∨ f = 3 := by omega
 rcases h with rfl | rfl | rfl <;> decide
theorem ix_opt {f : Int} (hf : 1 ≤ f ∧ f ≤ 3) : ∀ w, (Instr.index 107 (.agg #[.int .i64 0, .int .i64 15, .int .i64 7, .int .i64 14]) (.int .i64 f)).run Tryz.prog w = .ok (.int .i64 ((optN f : Nat) : Int)) w := by
 have h : f = 1 ∨ f = 2 ∨ f = 3 := by omega
 intro w
 rcases h with rfl | rfl | rfl <;> kernel_rfl
end Go.Proofs.YtibahbkjjfmbgaaGreatDoor
namespace Go.Proofs.YtibahbkjjfmbgaaGreatDoor
open Go.RowKit Go.Maps Go.Deep
set_option linter.unusedVariables false
def ZoneIs (w : World) (D : Nat) (e : Ending) (w' : World) : Prop := ∃ z : Zn, e = .returned (.agg (zV z).toArray) ∧ vE z = 0 ∧ Bears z ∧ w.grownBy w' (some D) ∧ DiceOk w' D
set_option maxHeartbeats 6400000 in
set_option maxRecDepth 40000 in
theorem dice_zone (D : Nat) (w : World) (h : DiceOk w D) : Calls Tryz.prog 46 #[.pointer (some ⟨D, 0, none⟩)] w (ZoneIs w D) := by
 have hDw := h.lt
 have HD := Lib.hid h
 clear h
 go_enter Tryz.func46, Tryz.ntmps46
 go_wp2_with ((with_reducible refine at_alloc_ (d := 2) ?_); refine wpList_alloc_v (op := ⟨some 2, _, _, _, _, _⟩) rfl 44 rfl zon0 info_z ?_; intro g2 w1 hf2 hr2)
 refine (dice_next_l D 3 3 w1 rfl (by decide) (by decide) (HD.out.below hf2.bw)).mono ?_
 rintro e w2 ⟨r, hr, rfl, hg, hd⟩
 have HA := Lib.hid (show _ ∧ _ ∧ _ ∧ _ ∧ _ from ⟨HD.out, hf2, hr2, hg, hd⟩)
 clear HD hf2 hr2 hg hd
 go_wp2_with (first
  | ((with_reducible refine at_alloc_ (d := 3) ?_); refine wpList_alloc_v (op := ⟨some 3, _, _, _, _, _⟩) rfl 44 rfl zon0 info_z ?_; intro g3 w3 hf3 hr3; have H3 := Lib.hid (And.intro hf3 hr3); clear hf3 hr3)
  | ((with_reducible refine at_store_ (i := 3) ?_); refine wpList_store_v rfl 44 (.tmp 3) (.tmp 11) rfl g3 zon0 (zV { Zn.zero with fm := 1 + (r : Int) }) rfl rfl H3.out.2 rfl (zV_one _) size_z ?_; intro w4 hw hr4; have HK := Lib.hid (Mk2.start HA.out.1 HA.out.2.1 HA.out.2.2.1 HA.out.2.2.2.1 HA.out.2.2.2.2 H3.out.1 hw hr4); clear hw hr4 H3 HA))
 obtain ⟨f, hf⟩ : ∃ f : Int, 1 + (r : Int) = f := ⟨_, rfl⟩
 have hf1 : 1 ≤ f ∧ f ≤ 3 := by omega
 have HK2 : Hid (Mk2 w D w4 g2 g3 [.int .i64 f, .string ⟨#[]⟩, .string ⟨#[]⟩, .string ⟨#[]⟩, .string ⟨#[]⟩, .string ⟨#[]⟩, .string ⟨#[]⟩, .string ⟨#[]⟩, .string ⟨#[]⟩, .string ⟨#[]⟩, .string ⟨#[]⟩, .string ⟨#[]⟩]) := Lib.hid (by have := HK.out; rw [hf] at this; exact this)
 clear HK hf hr
 have HK := HK2
 clear HK2
 go_wp2_with fail
 refine (dice_next_l D 4 4 _ rfl (by decide) (by decide) ((HK.out.alloc _).dk)).mono ?_
 rintro e wp1 ⟨j1, hj, rfl, hg, hd⟩
 obtain ⟨hk, c1⟩ := HK.out.pick (l := kindsL) hg hd hj
 obtain ⟨kd, hx⟩ : ∃ x, kindsL.getD j1 [] = x := ⟨_, rfl⟩
 rw [hx] at c1
 have Hkd := Lib.hid (show codeB kd 2 = true from hx ▸ kinds_ok j1 hj)
 clear HK
 have HK := Lib.hid hk
 have jj1 : (j1 : Int) < 4 := by omega
 clear hk hg hd hx
 go_wp2_with ((with_reducible refine at_store_ (i := 17) ?_); refine wpList_store_at rfl 9 (.tmp 17) (.tmp 16) rfl g3 1 _ (.string (S kd)) rfl rfl HK.out.r3 (by simp) rfl rfl size_st ?_; intro wa1 hw hr; have HK2 := Lib.hid (HK.out.put (us' := [.int .i64 f, .string (S kd), .string ⟨#[]⟩, .string ⟨#[]⟩, .string ⟨#[]⟩, .string ⟨#[]⟩, .string ⟨#[]⟩, .string ⟨#[]⟩, .string ⟨#[]⟩, .string ⟨#[]⟩, .string ⟨#[]⟩, .string ⟨#[]⟩]) hw hr); clear hw hr HK; have HK := HK2; clear HK2)
 refine (dice_next_l D 4 4 _ rfl (by decide) (by decide) ((HK.out.alloc _).dk)).mono ?_
 rintro e wp2 ⟨j2, hj, rfl, hg, hd⟩
 obtain ⟨hk, c2⟩ := HK.out.pick (l := statesL) hg hd hj
 obtain ⟨st, hx⟩ : ∃ x, statesL.getD j2 [] = x := ⟨_, rfl⟩
 rw [hx] at c2
 have Hst := Lib.hid (show codeB st 3 = true from hx ▸ states_ok j2 hj)
 clear HK
 have HK := Lib.hid hk
 have jj2 : (j2 : Int) < 4 := by omega
 clear hk hg hd hx
 go_wp2_with ((with_reducible refine at_store_ (i := 23) ?_); refine wpList_store_at rfl 9 (.tmp 23) (.tmp 22) rfl g3 2 _ (.string (S st)) rfl rfl HK.out.r3 (by simp) rfl rfl size_st ?_; intro wa2 hw hr; have HK2 := Lib.hid (HK.out.put (us' := [.int .i64 f, .string (S kd), .string (S st), .string ⟨#[]⟩, .string ⟨#[]⟩, .string ⟨#[]⟩, .string ⟨#[]⟩, .string ⟨#[]⟩, .string ⟨#[]⟩, .string ⟨#[]⟩, .string ⟨#[]⟩, .string ⟨#[]⟩]) hw hr); clear hw hr HK; have HK := HK2; clear HK2)
 refine (dice_next_l D 4 4 _ rfl (by decide) (by decide) ((HK.out.alloc _).dk)).mono ?_
 rintro e wp3 ⟨j3, hj, rfl, hg, hd⟩
 obtain ⟨hk, c3⟩ := HK.out.pick (l := statesL) hg hd hj
 obtain ⟨na, hx⟩ : ∃ x, statesL.getD j3 [] = x := ⟨_, rfl⟩
 rw [hx] at c3
 have Hna := Lib.hid (show codeB na 3 = true from hx ▸ states_ok j3 hj)
 clear HK
 have HK := Lib.hid hk
 have jj3 : (j3 : Int) < 4 := by omega
 clear hk hg hd hx
 go_wp2_with ((with_reducible refine at_store_ (i := 29) ?_); refine wpList_store_at rfl 9 (.tmp 29) (.tmp 28) rfl g3 6 _ (.string (S na)) rfl rfl HK.out.r3 (by simp) rfl rfl size_st ?_; intro wa3 hw hr; have HK2 := Lib.hid (HK.out.put (us' := [.int .i64 f, .string (S kd), .string (S st), .string ⟨#[]⟩, .string ⟨#[]⟩, .string ⟨#[]⟩, .string (S na), .string ⟨#[]⟩, .string ⟨#[]⟩, .string ⟨#[]⟩, .string ⟨#[]⟩, .string ⟨#[]⟩]) hw hr); clear hw hr HK; have HK := HK2; clear HK2)
 refine (dice_name_l D 2 2 _ rfl (by decide) HK.out.dk).mono ?_
 rintro e wn1 ⟨su, rfl, hn, hl, hg, hd⟩
 have HSU := Lib.hid (And.intro hn hl)
 have HK2 := Lib.hid (HK.out.dice hg hd)
 clear HK hn hl hg hd
 have HK := HK2
 clear HK2
 go_wp2_with fail
 refine (dice_name_l D 3 3 _ rfl (by decide) HK.out.dk).mono ?_
 rintro e wn2 ⟨gi, rfl, hn, hl, hg, hd⟩
 have HGI := Lib.hid (And.intro hn hl)
 have HK2 := Lib.hid (HK.out.dice hg hd)
 clear HK hn hl hg hd
 have HK := HK2
 clear HK2
 obtain ⟨SU, hSU⟩ : ∃ X, S su = X := ⟨_, rfl⟩
 rw [hSU]
 have HU := Lib.hid hSU
 clear hSU
 go_upto_if 38 with (first
  | ((with_reducible refine at_store_ (i := 34) ?_); refine wpList_store_at rfl 9 (.tmp 34) (.tmp 31) rfl g3 3 _ (.string SU) rfl rfl HK.out.r3 (by simp) rfl rfl size_st ?_; intro wb1 hw hr; have HK2 := Lib.hid (HK.out.put (us' := [.int .i64 f, .string (S kd), .string (S st), .string SU, .string ⟨#[]⟩, .string ⟨#[]⟩, .string (S na), .string ⟨#[]⟩, .string ⟨#[]⟩, .string ⟨#[]⟩, .string ⟨#[]⟩, .string ⟨#[]⟩]) hw hr); clear hw hr HK; have HK := HK2; clear HK2)
  | ((with_reducible refine at_store_ (i := 35) ?_); refine wpList_store_at rfl 9 (.tmp 35) (.tmp 33) rfl g3 4 _ (.string (S gi)) rfl rfl HK.out.r3 (by simp) rfl rfl size_st ?_; intro wb2 hw hr; have HK2 := Lib.hid (HK.out.put (us' := [.int .i64 f, .string (S kd), .string (S st), .string SU, .string (S gi), .string ⟨#[]⟩, .string (S na), .string ⟨#[]⟩, .string ⟨#[]⟩, .string ⟨#[]⟩, .string ⟨#[]⟩, .string ⟨#[]⟩]) hw hr); clear hw hr HK; have HK := HK2; clear HK2; have c3 : wb2.cell? ⟨g3, 3, none⟩ = some (.string SU) := HK.out.r3.cell 3))
 go_cut [] (fun wx => ∃ su2 : List UInt8, Hid (su2 ≠ [] ∧ nameL su2 = true ∧ su2.length ≤ 33) ∧ Hid (Mk2 w D wx g2 g3 [.int .i64 f, .string (S kd), .string (S st), .string (S su2), .string (S gi), .string ⟨#[]⟩, .string (S na), .string ⟨#[]⟩, .string ⟨#[]⟩, .string ⟨#[]⟩, .string ⟨#[]⟩, .string ⟨#[]⟩]))
 case first =>
  by_cases h0 : su = []
  · rw [s_nil HU.out.symm h0]
    clear h0
    go_wp2_with ((with_reducible refine at_store_ (i := 39) ?_); refine wpList_store_at rfl 9 (.tmp 39) (.const (.string ⟨#[79, 75]⟩)) rfl g3 3 _ (.string (S [79, 75])) rfl rfl HK.out.r3 (by simp) rfl rfl size_st ?_; intro wb3 hw hr; have HK2 := Lib.hid (HK.out.put (us' := [.int .i64 f, .string (S kd), .string (S st), .string (S [79, 75]), .string (S gi), .string ⟨#[]⟩, .string (S na), .string ⟨#[]⟩, .string ⟨#[]⟩, .string ⟨#[]⟩, .string ⟨#[]⟩, .string ⟨#[]⟩]) hw hr); clear hw hr HK; have HK := HK2; clear HK2)
    go_meet
    exact ⟨[79, 75], Lib.hid ⟨by decide, by decide, by decide⟩, HK⟩
  · rw [s_ne HU.out.symm h0]
    have HX := Lib.hid h0
    clear h0
    go_wp2_with fail
    go_meet
    exact ⟨su, Lib.hid ⟨HX.out, HSU.out.1, by have := HSU.out.2; omega⟩, by rw [HU.out]; exact HK⟩
 case rest =>
  clear HK HU HSU c3
  obtain ⟨su2, HSU, HK⟩ := hcut
  go_upto_region 9 with fail
  go_cut [46] (fun v46 wx => ∃ q : Bool, v46 = .bool q ∧ Hid (q = true → f = 2) ∧ Hid (Mk2 w D wx g2 g3 [.int .i64 f, .string (S kd), .string (S st), .string (S su2), .string (S gi), .string ⟨#[]⟩, .string (S na), .string ⟨#[]⟩, .string ⟨#[]⟩, .string ⟨#[]⟩, .string ⟨#[]⟩, .string ⟨#[]⟩]))
  case first =>
   have c0 : World.cell? _ ⟨g3, 0, none⟩ = some (.int .i64 f) := HK.out.r3.cell 0
   by_cases h2 : f = 2
   · have hb : (f == 2) = true := by simp; omega
     go_wp2_with (go_at_call 48; (with_reducible refine (dice_one_l D 3 3 _ rfl (by decide) (by decide) HK.out.dk).mono ?_); rintro e wo ⟨q, rfl, hg, hd⟩; have HK2 := Lib.hid (HK.out.dice hg hd); clear HK hg hd; have HK := HK2; clear HK2)
     go_meet
     exact ⟨q, rfl, Lib.hid (fun _ => h2), HK⟩
   · have hb : (f == 2) = false := by simp; omega
     go_wp2_with fail
     go_meet
     exact ⟨false, rfl, Lib.hid (fun h => by cases h), HK⟩
  case rest =>
   clear HK
   obtain ⟨q46, rfl, hq46, HK⟩ := hcut
   go_upto_if 46 with fail
   go_cut [4] (fun v4 wx => ∃ m : Nat, v4 = .int .i64 (m : Int) ∧ (m = 9 ∨ (m = 14 ∧ f = 2)) ∧ Hid (Mk2 w D wx g2 g3 [.int .i64 f, .string (S kd), .string (S st), .string (S su2), .string (S gi), .string ⟨#[]⟩, .string (S na), .string ⟨#[]⟩, .string ⟨#[]⟩, .string ⟨#[]⟩, .string ⟨#[]⟩, .string ⟨#[]⟩]))
   case first =>
    rcases q46 with _ | _
    · go_wp2_with fail
      go_meet
      exact ⟨9, rfl, .inl rfl, HK⟩
    · go_wp2_with fail
      go_meet
      exact ⟨14, rfl, .inr ⟨rfl, hq46.out (by simp)⟩, HK⟩
   case rest =>
    clear HK hq46
    obtain ⟨m, rfl, hm, HK⟩ := hcut
    go_upto_region 11 with fail
    go_cut [53] (fun v53 wx => ∃ q : Bool, v53 = .bool q ∧ Hid (q = true → f = 1) ∧ Hid (Mk2 w D wx g2 g3 [.int .i64 f, .string (S kd), .string (S st), .string (S su2), .string (S gi), .string ⟨#[]⟩, .string (S na), .string ⟨#[]⟩, .string ⟨#[]⟩, .string ⟨#[]⟩, .string ⟨#[]⟩, .string ⟨#[]⟩]))
    case first =>
     have c0 : World.cell? _ ⟨g3, 0, none⟩ = some (.int .i64 f) := HK.out.r3.cell 0
     by_cases h2 : f = 1
     · have hb : (f == 1) = true := by simp; omega
       go_wp2_with (go_at_call 48; (with_reducible refine (dice_one_l D 3 3 _ rfl (by decide) (by decide) HK.out.dk).mono ?_); rintro e wo ⟨q, rfl, hg, hd⟩; have HK2 := Lib.hid (HK.out.dice hg hd); clear HK hg hd; have HK := HK2; clear HK2)
       go_meet
       exact ⟨q, rfl, Lib.hid (fun _ => h2), HK⟩
     · have hb : (f == 1) = false := by simp; omega
       go_wp2_with fail
       go_meet
       exact ⟨false, rfl, Lib.hid (fun h => by cases h), HK⟩
    case rest =>
     clear HK
     obtain ⟨q53, rfl, hq53, HK⟩ := hcut
     go_upto_if 53 with fail
     go_cut [4] (fun v4 wx => ∃ m : Nat, v4 = .int .i64 (m : Int) ∧ (m = 9 ∨ (m = 14 ∧ f = 2) ∨ (m = 20 ∧ f = 1)) ∧ Hid (Mk2 w D wx g2 g3 [.int .i64 f, .string (S kd), .string (S st), .string (S su2), .string (S gi), .string ⟨#[]⟩, .string (S na), .string ⟨#[]⟩, .string ⟨#[]⟩, .string ⟨#[]⟩, .string ⟨#[]⟩, .string ⟨#[]⟩]))
     case first =>
      rcases q53 with _ | _
      · go_wp2_with fail
        go_meet
        exact ⟨m, rfl, by omega, HK⟩
      · go_wp2_with fail
        go_meet
        exact ⟨20, rfl, .inr (.inr ⟨rfl, hq53.out (by simp)⟩), HK⟩
     case rest =>
      clear HK hq53 hm
      obtain ⟨m, rfl, hm, HK⟩ := hcut
      have hm2 : 1 ≤ m ∧ m ≤ 20 := by omega
      go_wp2_with fail
      refine (dice_signs_l D m _ _ rfl hm2.1 (by omega) HK.out.dk).mono ?_
      rintro e ws ⟨nu, rfl, n1, n2, n3, hg, hd⟩
      have HNU := Lib.hid n3
      have HK2 := Lib.hid (HK.out.dice hg hd)
      clear HK n3 hg hd
      have HK := HK2
      clear HK2
      obtain ⟨NU, hNU⟩ : ∃ X, S nu = X := ⟨_, rfl⟩
      have sNU : NU.size = nu.length := by rw [← hNU, S_size]
      have hs1 : 1 ≤ NU.size ∧ NU.size ≤ m := by omega
      rw [hNU]
      have HNS := Lib.hid (And.intro hNU sNU)
      clear hNU sNU
      go_wp2_with ((with_reducible refine at_store_ (i := 57) ?_); refine wpList_store_at rfl 9 (.tmp 57) (.tmp 56) rfl g3 5 _ (.string NU) rfl rfl HK.out.r3 (by simp) rfl rfl size_st ?_; intro wb5 hw hr; have HK2 := Lib.hid (HK.out.put (us' := [.int .i64 f, .string (S kd), .string (S st), .string (S su2), .string (S gi), .string NU, .string (S na), .string ⟨#[]⟩, .string ⟨#[]⟩, .string ⟨#[]⟩, .string ⟨#[]⟩, .string ⟨#[]⟩]) hw hr); clear hw hr HK; have HK := HK2; clear HK2)
      refine (dice_day D _ HK.out.dk).mono ?_
      rintro e wd ⟨n, hn, rfl, hg, hd⟩
      have HK2 := Lib.hid (HK.out.dice hg hd)
      clear HK hg hd
      have HK := HK2
      clear HK2
      go_wp2_with fail
      refine (r_format (n : Int) _).mono ?_
      rintro e wf ⟨rfl, hb⟩
      have HK2 := Lib.hid (HK.out.bl hb)
      clear HK hb
      have HK := HK2
      clear HK2
      have HBI := Lib.hid (day_text hn)
      obtain ⟨bi, hbi⟩ : ∃ b, fL (n : Int) = b := ⟨_, rfl⟩
      obtain ⟨pe, hpe⟩ : ∃ b, pE (n : Int) = b := ⟨_, rfl⟩
      rw [hbi] at HBI
      rw [hbi, hpe]
      clear hbi hpe
      go_wp2_with ((with_reducible refine at_store_ (i := 65) ?_); refine wpList_store_at rfl 9 (.tmp 65) (.tmp 64) rfl g3 7 _ (.string (S bi)) rfl rfl HK.out.r3 (by simp) rfl rfl size_st ?_; intro wb6 hw hr; have HK2 := Lib.hid (HK.out.put (us' := [.int .i64 f, .string (S kd), .string (S st), .string (S su2), .string (S gi), .string NU, .string (S na), .string (S bi), .string ⟨#[]⟩, .string ⟨#[]⟩, .string ⟨#[]⟩, .string ⟨#[]⟩]) hw hr); clear hw hr HK; have HK := HK2; clear HK2)
      refine (dice_one_l D 5 5 _ rfl (by decide) (by decide) HK.out.dk).mono ?_
      rintro e wo ⟨q67, rfl, hg, hd⟩
      have HK2 := Lib.hid (HK.out.dice hg hd)
      clear HK hg hd
      have HK := HK2
      clear HK2
      go_upto_if 67 with fail
      go_cut [] (fun  wx => ∃ b : List UInt8, Hid (birthB b = true) ∧ Hid (Mk2 w D wx g2 g3 [.int .i64 f, .string (S kd), .string (S st), .string (S su2), .string (S gi), .string NU, .string (S na), .string (S b), .string ⟨#[]⟩, .string ⟨#[]⟩, .string ⟨#[]⟩, .string ⟨#[]⟩]))
      case first =>
       rcases q67 with _ | _
       · go_wp2_with fail
         go_meet
         exact ⟨bi, Lib.hid HBI.out.1, HK⟩
       ·
        go_wp2_with fail
        refine (dice_next_l D 5 5 _ rfl (by decide) (by decide) ((HK.out.alloc _).dk)).mono ?_
        rintro e wp ⟨j, hj, rfl, hg, hd⟩
        obtain ⟨hk, c⟩ := HK.out.pick (l := birthsL) hg hd hj
        obtain ⟨b2, hx⟩ : ∃ x, birthsL.getD j [] = x := ⟨_, rfl⟩
        rw [hx] at c
        have Hb2 := Lib.hid (show birthB b2 = true from hx ▸ births_ok j hj)
        clear HK
        have HK := Lib.hid hk
        have jj : (j : Int) < 5 := by omega
        clear hk hg hd hx
        go_wp2_with ((with_reducible refine at_store_ (i := 73) ?_); refine wpList_store_at rfl 9 (.tmp 73) (.tmp 72) rfl g3 7 _ (.string (S b2)) rfl rfl HK.out.r3 (by simp) rfl rfl size_st ?_; intro wb7 hw hr; have HK2 := Lib.hid (HK.out.put (us' := [.int .i64 f, .string (S kd), .string (S st), .string (S su2), .string (S gi), .string NU, .string (S na), .string (S b2), .string ⟨#[]⟩, .string ⟨#[]⟩, .string ⟨#[]⟩, .string ⟨#[]⟩]) hw hr); clear hw hr HK; have HK := HK2; clear HK2)
        go_meet
        exact ⟨b2, Hb2, HK⟩
      case rest =>
       clear HK HBI
       obtain ⟨bi, HBI, HK⟩ := hcut
       go_wp2_with fail
       refine (dice_next_l D 3 3 _ rfl (by decide) (by decide) ((HK.out.alloc _).dk)).mono ?_
       rintro e wp ⟨j, hj, rfl, hg, hd⟩
       obtain ⟨hk, c⟩ := HK.out.pick (l := sexesL) hg hd hj
       obtain ⟨sx, hx⟩ : ∃ x, sexesL.getD j [] = x := ⟨_, rfl⟩
       rw [hx] at c
       have Hsx := Lib.hid (show sexB sx = true from hx ▸ sexes_ok j hj)
       clear HK
       have HK := Lib.hid hk
       have jj : (j : Int) < 3 := by omega
       clear hk hg hd hx
       go_wp2_with ((with_reducible refine at_store_ (i := 79) ?_); refine wpList_store_at rfl 9 (.tmp 79) (.tmp 78) rfl g3 8 _ (.string (S sx)) rfl rfl HK.out.r3 (by simp) rfl rfl size_st ?_; intro wb8 hw hr; have HK2 := Lib.hid (HK.out.put (us' := [.int .i64 f, .string (S kd), .string (S st), .string (S su2), .string (S gi), .string NU, .string (S na), .string (S bi), .string (S sx), .string ⟨#[]⟩, .string ⟨#[]⟩, .string ⟨#[]⟩]) hw hr); clear hw hr HK; have HK := HK2; clear HK2)
       refine (dice_next_l D 36000 36000 _ rfl (by decide) (by decide) HK.out.dk).mono ?_
       rintro e wx1 ⟨n, hn, rfl, hg, hd⟩
       have HK2 := Lib.hid (HK.out.dice hg hd)
       clear HK hg hd
       have HK := HK2
       clear HK2
       go_wp2_with fail
       refine (r_format (36524 + (n : Int)) _).mono ?_
       rintro e wf ⟨rfl, hb⟩
       have HK2 := Lib.hid (HK.out.bl hb)
       clear HK hb
       have HK := HK2
       clear HK2
       have HEX := Lib.hid (exp_text hn)
       obtain ⟨ex, hex⟩ : ∃ b, fL (36524 + (n : Int)) = b := ⟨_, rfl⟩
       obtain ⟨pe, hpe⟩ : ∃ b, pE (36524 + (n : Int)) = b := ⟨_, rfl⟩
       rw [hex] at HEX
       rw [hex, hpe]
       clear hex hpe
       have ixo := ix_opt hf1
       obtain ⟨ro, hro⟩ : ∃ r, optN f = r := ⟨_, rfl⟩
       rw [hro] at ixo
       go_upto_if 95 with ((with_reducible refine at_store_ (i := 87) ?_); refine wpList_store_at rfl 9 (.tmp 87) (.tmp 85) rfl g3 9 _ (.string (S ex)) rfl rfl HK.out.r3 (by simp) rfl rfl size_st ?_; intro wb9 hw hr; have HK2 := Lib.hid (HK.out.put (us' := [.int .i64 f, .string (S kd), .string (S st), .string (S su2), .string (S gi), .string NU, .string (S na), .string (S bi), .string (S sx), .string (S ex), .string ⟨#[]⟩, .string ⟨#[]⟩]) hw hr); clear hw hr HK; have HK := HK2; clear HK2; have c0 : wb9.cell? ⟨g3, 0, none⟩ = some (.int .i64 f) := HK.out.r3.cell 0; have c5 : wb9.cell? ⟨g3, 5, none⟩ = some (.string NU) := HK.out.r3.cell 5)
       have hro2 : ro = 15 ∧ f = 1 ∨ ro = 7 ∧ f = 2 ∨ ro = 14 ∧ f = 3 := by rw [← hro]; exact opt_cases hf1
       go_cut [7] (fun v7 wx => ∃ R : Nat, v7 = .int .i64 (R : Int) ∧ R ≤ 15 ∧ (R + (if 9 < nu.length then nu.length - 7 else 0) = ro) ∧ Hid (Mk2 w D wx g2 g3 [.int .i64 f, .string (S kd), .string (S st), .string (S su2), .string (S gi), .string NU, .string (S na), .string (S bi), .string (S sx), .string (S ex), .string ⟨#[]⟩, .string ⟨#[]⟩]))
       case first =>
        by_cases h9 : 9 < NU.size
        · have hb : decide ((9 : Int) < (NU.size : Int)) = true := by simp; omega
          go_wp2_with fail
          go_meet
          exact ⟨ro - (NU.size - 7), by go_num, by omega, by have := HNS.out.2; rw [if_pos (by omega)]; omega, HK⟩
        · have hb : decide ((9 : Int) < (NU.size : Int)) = false := by simp; omega
          go_wp2_with fail
          go_meet
          exact ⟨ro, rfl, by omega, by have := HNS.out.2; rw [if_neg (by omega)]; omega, HK⟩
       case rest =>
        clear HK c0 c5 ixo
        obtain ⟨R, rfl, hR, hR2, HK⟩ := hcut
        have HR := Lib.hid (And.intro hR2 hro)
        clear hR2 hro2 hro
        go_upto_region 23 with fail
        go_cut [107] (fun v107 wx => ∃ q : Bool, v107 = .bool q ∧ Hid (q = true → 0 < R) ∧ Hid (Mk2 w D wx g2 g3 [.int .i64 f, .string (S kd), .string (S st), .string (S su2), .string (S gi), .string NU, .string (S na), .string (S bi), .string (S sx), .string (S ex), .string ⟨#[]⟩, .string ⟨#[]⟩]))
        case first =>
         by_cases h2 : 0 < R
         · have hb : (decide ((0 : Int) < (R : Int))) = true := by simp; omega
           go_wp2_with (go_at_call 48; (with_reducible refine (dice_one_l D 2 2 _ rfl (by decide) (by decide) HK.out.dk).mono ?_); rintro e wo ⟨q, rfl, hg, hd⟩; have HK2 := Lib.hid (HK.out.dice hg hd); clear HK hg hd; have HK := HK2; clear HK2)
           go_meet
           exact ⟨q, rfl, Lib.hid (fun _ => h2), HK⟩
         · have hb : (decide ((0 : Int) < (R : Int))) = false := by simp; omega
           go_wp2_with fail
           go_meet
           exact ⟨false, rfl, Lib.hid (fun h => by cases h), HK⟩
        case rest =>
         clear HK
         obtain ⟨q107, rfl, hq107, HK⟩ := hcut
         go_upto_if 107 with fail
         go_cut [] (fun  wx => ∃ op : List UInt8, Hid (extraB op = true ∧ op.length ≤ R) ∧ Hid (Mk2 w D wx g2 g3 [.int .i64 f, .string (S kd), .string (S st), .string (S su2), .string (S gi), .string NU, .string (S na), .string (S bi), .string (S sx), .string (S ex), .string (S op), .string ⟨#[]⟩]))
         case first =>
          rcases q107 with _ | _
          · go_wp2_with fail
            go_meet
            exact ⟨[], Lib.hid ⟨by decide, by simp⟩, HK⟩
          · go_wp2_with fail
            refine (dice_signs_l D R _ _ rfl (hq107.out (by simp)) (by omega) HK.out.dk).mono ?_
            rintro e ws2 ⟨op, rfl, n4, n5, n6, hg, hd⟩
            have HOP := Lib.hid (show extraB op = true ∧ op.length ≤ R from ⟨sgn_extra n6, n5⟩)
            have HK2 := Lib.hid (HK.out.dice hg hd)
            clear HK n4 n5 n6 hg hd
            have HK := HK2
            clear HK2
            go_wp2_with ((with_reducible refine at_store_ (i := 111) ?_); refine wpList_store_at rfl 9 (.tmp 111) (.tmp 110) rfl g3 10 _ (.string (S op)) rfl rfl HK.out.r3 (by simp) rfl rfl size_st ?_; intro wb10 hw hr; have HK2 := Lib.hid (HK.out.put (us' := [.int .i64 f, .string (S kd), .string (S st), .string (S su2), .string (S gi), .string NU, .string (S na), .string (S bi), .string (S sx), .string (S ex), .string (S op), .string ⟨#[]⟩]) hw hr); clear hw hr HK; have HK := HK2; clear HK2)
            go_meet
            exact ⟨op, HOP, HK⟩
         case rest =>
          clear HK hq107
          obtain ⟨op, HOP, HK⟩ := hcut
          go_upto_region 25 with fail
          go_cut [118] (fun v118 wx => ∃ q : Bool, v118 = .bool q ∧ Hid (q = true → f = 1) ∧ Hid (Mk2 w D wx g2 g3 [.int .i64 f, .string (S kd), .string (S st), .string (S su2), .string (S gi), .string NU, .string (S na), .string (S bi), .string (S sx), .string (S ex), .string (S op), .string ⟨#[]⟩]))
          case first =>
           have c0 : World.cell? _ ⟨g3, 0, none⟩ = some (.int .i64 f) := HK.out.r3.cell 0
           by_cases h2 : f = 1
           · have hb : (f == 1) = true := by simp; omega
             go_wp2_with (go_at_call 48; (with_reducible refine (dice_one_l D 3 3 _ rfl (by decide) (by decide) HK.out.dk).mono ?_); rintro e wo ⟨q, rfl, hg, hd⟩; have HK2 := Lib.hid (HK.out.dice hg hd); clear HK hg hd; have HK := HK2; clear HK2)
             go_meet
             exact ⟨q, rfl, Lib.hid (fun _ => h2), HK⟩
           · have hb : (f == 1) = false := by simp; omega
             go_wp2_with fail
             go_meet
             exact ⟨false, rfl, Lib.hid (fun h => by cases h), HK⟩
          case rest =>
           clear HK
           obtain ⟨q118, rfl, hq118, HK⟩ := hcut
           go_upto_if 118 with fail
           go_cut [] (fun  wx => ∃ se : List UInt8, Hid (extraB se = true ∧ se.length ≤ 11 ∧ (se ≠ [] → f = 1)) ∧ Hid (Mk2 w D wx g2 g3 [.int .i64 f, .string (S kd), .string (S st), .string (S su2), .string (S gi), .string NU, .string (S na), .string (S bi), .string (S sx), .string (S ex), .string (S op), .string (S se)]))
           case first =>
            rcases q118 with _ | _
            · go_wp2_with fail
              go_meet
              exact ⟨[], Lib.hid ⟨by decide, by simp, fun h => absurd rfl h⟩, HK⟩
            · go_wp2_with fail
              refine (dice_signs_l D 11 11 _ rfl (by decide) (by decide) HK.out.dk).mono ?_
              rintro e ws3 ⟨se, rfl, n4, n5, n6, hg, hd⟩
              have HSE := Lib.hid (show extraB se = true ∧ se.length ≤ 11 ∧ (se ≠ [] → f = 1) from ⟨sgn_extra n6, n5, fun _ => hq118.out (by simp)⟩)
              have HK2 := Lib.hid (HK.out.dice hg hd)
              clear HK n4 n5 n6 hg hd
              have HK := HK2
              clear HK2
              go_wp2_with ((with_reducible refine at_store_ (i := 121) ?_); refine wpList_store_at rfl 9 (.tmp 121) (.tmp 120) rfl g3 11 _ (.string (S se)) rfl rfl HK.out.r3 (by simp) rfl rfl size_st ?_; intro wb11 hw hr; have HK2 := Lib.hid (HK.out.put (us' := [.int .i64 f, .string (S kd), .string (S st), .string (S su2), .string (S gi), .string NU, .string (S na), .string (S bi), .string (S sx), .string (S ex), .string (S op), .string (S se)]) hw hr); clear hw hr HK; have HK := HK2; clear HK2)
              go_meet
              exact ⟨se, HSE, HK⟩
           case rest =>
            clear HK hq118
            obtain ⟨se, HSE, HK⟩ := hcut
            have HK2 : Hid (Mk2 w D _ g2 g3 (zV ⟨f, kd, st, su2, gi, nu, na, bi, sx, ex, op, se⟩)) := Lib.hid (by have h0 := HK.out; have h1 := HNS.out.1; rw [← h1] at h0; exact h0)
            clear HK
            have HK := HK2
            clear HK2
            have HZ : Hid (vE ⟨f, kd, st, su2, gi, nu, na, bi, sx, ex, op, se⟩ = 0 ∧ Bears ⟨f, kd, st, su2, gi, nu, na, bi, sx, ex, op, se⟩) := Lib.hid (by
             have hn := sgn_num HNU.out
             have hl := HNS.out.2
             have hR2 := HR.out.1
             have hro := HR.out.2
             have hx := (exp_ok (x := ex) HEX.out.1).1
             have hb := bir_valid (x := bi) HBI.out
             have hsx := sex_len Hsx.out
             have hmx : m ≤ maxN f := by
              have h : f = 1 ∨ f = 2 ∨ f = 3 := by omega
              rcases h with rfl | rfl | rfl <;> simp [maxN] <;> omega
             have k1 := code_le Hkd.out
             have k2 := code_le Hst.out
             have k3 := code_le Hna.out
             refine ⟨vE_mk hf1 Hkd.out Hst.out ⟨HSU.out.1, HSU.out.2.1⟩ HGI.out.1 ⟨fun e => absurd n1 (by rw [show nu = [] from e]; decide), hn⟩ (Nat.le_trans n2 hmx) Hna.out HBI.out Hsx.out HEX.out.1 HOP.out.1 HSE.out.1 (fun h => h.2 (HSE.out.2.2 h.1)) ⟨?_, HSE.out.2.1⟩, ?_⟩
             · show op.length + (if 9 < nu.length then nu.length - 7 else 0) ≤ optN f
               have := HOP.out.2
               omega
             · have := HSU.out.2.2
               have := HGI.out.2
               have := HOP.out.2
               have := HSE.out.2.1
               constructor <;> rw [S_size] <;> simp only <;> omega)
            clear HR HNS HNU HEX HBI Hsx Hkd Hst Hna HSU HGI HOP HSE
            go_wp2_with (first
             | ((with_reducible refine at_load_ (d := 122) ?_); refine wpList_load_v rfl 44 (.tmp 3) rfl g3 rfl (zV ⟨f, kd, st, su2, gi, nu, na, bi, sx, ex, op, se⟩) _ HK.out.r3 Tryz.underlying44 rfl size_z ?_)
             | ((with_reducible refine at_store_ (i := 2) ?_); refine wpList_store_v rfl 44 (.tmp 2) (.tmp 122) rfl g2 zon0 (zV ⟨f, kd, st, su2, gi, nu, na, bi, sx, ex, op, se⟩) rfl rfl HK.out.r2 rfl (zV_one _) size_z ?_; intro wz hw hr; have HF := Lib.hid (And.intro (HK.out.res hw) hr); clear hw hr HK))
            exact bodyPost_ret (results_v rfl _ _ g2 _ _ rfl HF.out.2 Tryz.underlying44 rfl size_z) rfl ⟨_, rfl, HZ.out.1, HZ.out.2, HF.out.1.1, HF.out.1.2⟩
end Go.Proofs.YtibahbkjjfmbgaaGreatDoor
