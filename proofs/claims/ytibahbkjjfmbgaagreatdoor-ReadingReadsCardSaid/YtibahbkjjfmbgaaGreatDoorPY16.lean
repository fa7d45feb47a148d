/-
  What is proved here: plain facts: the lines of a valid zone stand for the zone, but for names that do not fit.
-/
import Derived.Test.YtibahbkjjfmbgaaGreatDoorPY11
import Derived.Test.YtibahbkjjfmbgaaGreatDoorPY14
import Derived.Test.YtibahbkjjfmbgaaGreatDoorPY15
import Derived.Test.YtibahbkjjfmbgaaGreatDoorPQ8
import Derived.Test.YtibahbkjjfmbgaaGreatDoorPY9
namespace Go.Proofs.YtibahbkjjfmbgaaGreatDoor
open Go.RowKit Go.Maps
set_option linter.unusedVariables false
section
variable {z : Zn}
theorem bk_lines (hz : vE z = 0) : LinesOf z.fm (buildT z) := by
 have h1 := (vE_ok hz).1
 refine ⟨linesT_len _ _, fun j hj => ?_⟩
 unfold buildT
 rw [linesT_get _ _ hj, lineT_len, seg_sum h1 hj]
theorem bk_shape (hz : vE z = 0) : shapeL (buildT z) = z.fm := (shape_of (vE_ok hz).1).1 (bk_lines hz)
theorem siz_all {f : Int} (h : 1 ≤ f ∧ f ≤ 3) : sizN f 0 = 2 ∧ sizN f 1 = 3 ∧ sizN f 2 = namN f ∧ sizN f 3 = 9 ∧ sizN f 4 = 1 ∧ sizN f 5 = 3 ∧ sizN f 6 = 6 ∧ sizN f 7 = 1 ∧ sizN f 8 = 1 ∧ sizN f 9 = 6 ∧ sizN f 10 = 1 ∧ sizN f 11 = optN f ∧ sizN f 12 = (if f = 3 then 1 else 0) ∧ sizN f 13 = (if f = 1 then 11 else 0) ∧ sizN f 14 = 1 := by
 have h : f = 1 ∨ f = 2 ∨ f = 3 := by omega
 rcases h with rfl | rfl | rfl <;> decide
end
theorem fd_len {f : Int} (hf : 1 ≤ f ∧ f ≤ 3) {ls : List (List UInt8)} (h : LinesOf f ls) {k : Nat} (hk : k < 15) : (fd f ls k).length = sizN f k := by
 obtain ⟨h1, h2, h3⟩ := plc_ok hf hk
 have h4 := h.2 _ h1
 show (((ls.getD (plc f k).1 []).drop (plc f k).2.1).take ((plc f k).2.2 - (plc f k).2.1)).length = (plc f k).2.2 - (plc f k).2.1
 rw [List.length_take, List.length_drop]
 omega
theorem days_ok (x : List UInt8) (a : Nat) (h : a + 15 ≤ x.length) (Y : ByteArray) (hY : Y = S ((x.drop a).take 15)) :
 Y.size = 15 ∧ Y.extract 0 6 = S ((x.drop a).take 6) ∧ Y.extract 7 8 = S ((x.drop (a + 7)).take 1) ∧ Y.extract 8 14 = S ((x.drop (a + 8)).take 6) ∧
 (∀ w, (Instr.index 9 (.string Y) (.int .i64 6)).run Tryz.prog w = .ok (.int .u8 (cB ((x.drop (a + 6)).take 1) 0)) w) ∧
 (∀ w, (Instr.index 9 (.string Y) (.int .i64 14)).run Tryz.prog w = .ok (.int .u8 (cB ((x.drop (a + 14)).take 1) 0)) w) := by
 have hs : Y.size = 15 := by rw [hY, S_size, List.length_take, List.length_drop]; omega
 refine ⟨hs, ?_, ?_, ?_, fun w => ?_, fun w => ?_⟩
 · rw [hY, S_extract]; congr 1; simp [List.take_take]
 · rw [hY, S_extract]; congr 1; simp [List.drop_take, List.take_take]
 · rw [hY, S_extract]; congr 1; simp [List.drop_take, List.take_take]
 · exact ix_at (k := 6) hY (by omega) (by rw [cB_take (by decide), cB_drop, cB_take (by decide), cB_drop]) w
 · exact ix_at (k := 14) hY (by omega) (by rw [cB_take (by decide), cB_drop, cB_take (by decide), cB_drop]) w
structure Sw (f : Int) (ls : List (List UInt8)) (N D Y O AL NM NA SE : ByteArray) : Prop where
 n : N = S (fd f ls 3)
 d : D = S (fd f ls 4)
 y6 : Y.extract 0 6 = S (fd f ls 6)
 y8 : Y.extract 7 8 = S (fd f ls 8)
 y9 : Y.extract 8 14 = S (fd f ls 9)
 i6 : ∀ w, (Instr.index 9 (.string Y) (.int .i64 6)).run Tryz.prog w = .ok (.int .u8 (cB (fd f ls 7) 0)) w
 i14 : ∀ w, (Instr.index 9 (.string Y) (.int .i64 14)).run Tryz.prog w = .ok (.int .u8 (cB (fd f ls 10) 0)) w
 o : O = S (fd f ls 11)
 al : AL = S (cmpT f ls)
 nm : NM = S (fd f ls 2)
 na : NA = S (trimT (fd f ls 5))
 se : SE = S (trimT (fd f ls 13))
 sy : Y.size = 15
theorem sw_1 {ls : List (List UInt8)} (h : LinesOf 1 ls) : Sw 1 ls ((S (ls.getD 0 [])).extract 5 14) ((S (ls.getD 0 [])).extract 14 15) ((S (ls.getD 1 [])).extract 0 15) ((S (ls.getD 0 [])).extract 15 30)
 ((S (ls.getD 0 [])).extract 5 30 ++ (S (ls.getD 1 [])).extract 0 7 ++ (S (ls.getD 1 [])).extract 8 15 ++ (S (ls.getD 1 [])).extract 18 29) (S (ls.getD 2 [])) (S (trimT (((ls.getD 1 []).drop 15).take 3))) (S (trimT (((ls.getD 1 []).drop 18).take 11))) := by
 have h1 : (ls.getD 1 []).length = 30 := h.2 1 (by decide)
 have h2 : (ls.getD 2 []).length = 30 := h.2 2 (by decide)
 obtain ⟨y1, y2, y3, y4, y5, y6⟩ := days_ok (ls.getD 1 []) 0 (by omega) _ (S_extract (ls.getD 1 []) 0 15)
 refine ⟨S_extract _ _ _, S_extract _ _ _, y2, y3, y4, y5, y6, S_extract _ _ _, ?_, ?_, rfl, rfl, y1⟩
 · simp only [S_extract, S_append]; exact congrArg S (by simp [cmpT, cmps, subL])
 · show S (ls.getD 2 []) = S (((ls.getD 2 []).drop 0).take 30)
   rw [List.drop_zero, List.take_of_length_le (by omega)]
theorem sw_2 {ls : List (List UInt8)} (h : LinesOf 2 ls) : Sw 2 ls ((S (ls.getD 1 [])).extract 0 9) ((S (ls.getD 1 [])).extract 9 10) ((S (ls.getD 1 [])).extract 13 28) ((S (ls.getD 1 [])).extract 28 35)
 ((S (ls.getD 1 [])).extract 0 10 ++ (S (ls.getD 1 [])).extract 13 20 ++ (S (ls.getD 1 [])).extract 21 35) ((S (ls.getD 0 [])).extract 5 (S (ls.getD 0 [])).size) (S (trimT (((ls.getD 1 []).drop 10).take 3))) ⟨#[]⟩ := by
 have h1 : (ls.getD 1 []).length = 36 := h.2 1 (by decide)
 have h0 : (ls.getD 0 []).length = 36 := h.2 0 (by decide)
 obtain ⟨y1, y2, y3, y4, y5, y6⟩ := days_ok (ls.getD 1 []) 13 (by omega) _ (S_extract (ls.getD 1 []) 13 28)
 refine ⟨S_extract _ _ _, S_extract _ _ _, y2, y3, y4, y5, y6, S_extract _ _ _, ?_, ?_, rfl, ?_, y1⟩
 · simp only [S_extract, S_append]; exact congrArg S (by simp [cmpT, cmps, subL])
 · rw [S_extract, S_size, h0]; rfl
 · show _ = S (trimT (((ls.getD 0 []).drop 0).take 0)); rw [List.take_zero]; rfl
theorem sw_3 {ls : List (List UInt8)} (h : LinesOf 3 ls) : Sw 3 ls ((S (ls.getD 1 [])).extract 0 9) ((S (ls.getD 1 [])).extract 9 10) ((S (ls.getD 1 [])).extract 13 28) ((S (ls.getD 1 [])).extract 28 42)
 ((S (ls.getD 1 [])).extract 0 10 ++ (S (ls.getD 1 [])).extract 13 20 ++ (S (ls.getD 1 [])).extract 21 43) ((S (ls.getD 0 [])).extract 5 (S (ls.getD 0 [])).size) (S (trimT (((ls.getD 1 []).drop 10).take 3))) ⟨#[]⟩ := by
 have h1 : (ls.getD 1 []).length = 44 := h.2 1 (by decide)
 have h0 : (ls.getD 0 []).length = 44 := h.2 0 (by decide)
 obtain ⟨y1, y2, y3, y4, y5, y6⟩ := days_ok (ls.getD 1 []) 13 (by omega) _ (S_extract (ls.getD 1 []) 13 28)
 refine ⟨S_extract _ _ _, S_extract _ _ _, y2, y3, y4, y5, y6, S_extract _ _ _, ?_, ?_, rfl, ?_, y1⟩
 · simp only [S_extract, S_append]; exact congrArg S (by simp [cmpT, cmps, subL])
 · rw [S_extract, S_size, h0]; rfl
 · show _ = S (trimT (((ls.getD 0 []).drop 0).take 0)); rw [List.take_zero]; rfl
section
variable {f : Int} {ls : List (List UInt8)}
theorem fd_valid (h : LinesOf f ls) (hf : 1 ≤ f ∧ f ≤ 3) (hav : allV ls = true) {k : Nat} (hk : k < 15) : validL (fd f ls k) = true := by
 have h1 := (plc_ok hf hk).1
 unfold allV at hav
 rw [List.all_eq_true] at hav
 refine val_sub (hav (ls.getD (plc f k).1 []) ?_) fun x hx => List.mem_of_mem_drop (List.mem_of_mem_take hx)
 rw [List.getD_eq_getElem?_getD, List.getElem?_eq_getElem (by rw [h.1]; exact h1)]
 exact List.getElem_mem _
theorem cmp_valid (h : LinesOf f ls) (hf : 1 ≤ f ∧ f ≤ 3) (hav : allV ls = true) : validL (cmpT f ls) = true := by
 have hall : ∀ p : Nat × Nat × Nat, p ∈ cmps f → validL (subL ls p) = true := fun p hp => by
  have h1 : p.1 < cntN f := by
   have hf' : f = 1 ∨ f = 2 ∨ f = 3 := by omega
   have : ∀ p ∈ cmps f, p.1 < cntN f := by rcases hf' with rfl | rfl | rfl <;> decide
   exact this p hp
  unfold allV at hav
  rw [List.all_eq_true] at hav
  refine val_sub (hav (ls.getD p.1 []) ?_) fun x hx => List.mem_of_mem_drop (List.mem_of_mem_take hx)
  rw [List.getD_eq_getElem?_getD, List.getElem?_eq_getElem (by rw [h.1]; exact h1)]
  exact List.getElem_mem _
 unfold validL
 rw [List.all_eq_true]
 intro b hb
 obtain ⟨p, hp, hb2⟩ := List.mem_flatMap.1 hb
 exact List.all_eq_true.1 (hall p hp) b hb2
theorem cmp_len (h : LinesOf f ls) (hf : 1 ≤ f ∧ f ≤ 3) : (cmpT f ls).length ≤ 176 := by
 have hall : ∀ p : Nat × Nat × Nat, (subL ls p).length ≤ 44 := fun p => by
  unfold subL
  rw [List.length_take, List.length_drop]
  have hw : widN f ≤ 44 := by unfold widN; repeat (first | omega | split)
  have : (ls.getD p.1 []).length ≤ 44 := by
   by_cases hc : p.1 < cntN f
   · rw [h.2 _ hc]; exact hw
   · rw [List.getD_eq_getElem?_getD, List.getElem?_eq_none (by rw [h.1]; omega)]; simp
  omega
 have key : ∀ l : List (Nat × Nat × Nat), (l.flatMap (subL ls)).length ≤ 44 * l.length := by
  intro l
  induction l with
  | nil => simp
  | cons p r ih => rw [List.flatMap_cons, List.length_append, List.length_cons]; have := hall p; omega
 have h4 : (cmps f).length = 4 := by unfold cmps; repeat (first | rfl | split)
 have := key (cmps f)
 unfold cmpT
 omega
theorem kf_is : ∀ {x : List UInt8} {k : Nat}, k ≤ x.length → (∀ i, i < k → cB x i ≠ 60) → (k < x.length → cB x k = 60) → kf x = k
 | [], k, h, _, _ => by simp at h; subst h; rfl
 | a :: r, 0, h, h1, h2 => by
  have h3 := h2 (by simp)
  rw [cB_get (by simp)] at h3
  have : a = 60 := by
   have h4 : a.toNat = 60 := by have : (a.toNat : Int) = 60 := h3; omega
   exact UInt8.toNat.inj (by rw [h4]; rfl)
  subst this
  rfl
 | a :: r, k + 1, h, h1, h2 => by
  have h3 := h1 0 (by omega)
  have e0 : cB (a :: r) 0 = (a.toNat : Int) := rfl
  have hne : a ≠ 60 := by rintro rfl; exact h3 rfl
  have hc : ∀ i, cB (a :: r) (i + 1) = cB r i := fun i => rfl
  have ih := kf_is (x := r) (k := k) (by simpa using h) (fun i hi => by rw [← hc]; exact h1 (i + 1) (by omega)) (fun hk => by rw [← hc]; exact h2 (by simpa using hk))
  unfold kf at ih ⊢
  rw [List.takeWhile_cons_of_pos (by simpa using hne), List.length_cons, ih]
end
section
open Go.RowKit
variable {P : Program} {a : Act} {w w' : World} {K : Act → World → Prop} {Q : Exit → Act → World → Prop} {o : Oper}
theorem o_sub (T T2 : TypeId) (x y : Operand) (ho : o.op = .binOp .sub T x y T2) {v vx vy : Value} (hx : a.eval x = vx) (hy : a.eval y = vy) (hr : (do eqGuard .sub T x y vx vy; binOp .sub T vx vy).run P w = .ok v w) (hK : K (a.put o.dst v) w) : o.wp P a w K Q := by
 unfold Oper.wp execOp
 simp only [ho, hx, hy]
 rw [Sem.run_bind, hr]
 exact hK
end
theorem add_str (A B : ByteArray) (h : A.size + B.size ≤ 1000000) (x y : Operand) (w : World) : (do eqGuard .add 9 x y (.string A) (.string B); binOp .add 9 (.string A) (.string B)).run Tryz.prog w = .ok (.string (A ++ B)) w := by
 simp [eqGuard, binOp, go_sem]; omega
theorem sub_one (k : Nat) (h1 : 1 ≤ k) (h2 : k ≤ 1000000) (x y : Operand) (w : World) : (do eqGuard .sub 3 x y (.int .i64 (k : Int)) (.int .i64 1); binOp .sub 3 (.int .i64 (k : Int)) (.int .i64 1)).run Tryz.prog w = .ok (.int .i64 ((k - 1 : Nat) : Int)) w := by
 have h3 : IntKind.i64.wrap ((k : Int) - 1) = ((k - 1 : Nat) : Int) := by rw [show ((k : Int) - 1) = ((k - 1 : Nat) : Int) by omega]; exact wrap_small _ (by omega) (by omega)
 simp [eqGuard, binOp, go_sem, h3]
theorem add_one (k : Nat) (h2 : k ≤ 1000000) (x y : Operand) (w : World) : (do eqGuard .add 3 x y (.int .i64 (k : Int)) (.int .i64 1); binOp .add 3 (.int .i64 (k : Int)) (.int .i64 1)).run Tryz.prog w = .ok (.int .i64 ((k + 1 : Nat) : Int)) w := by
 have h3 : IntKind.i64.wrap ((k : Int) + 1) = ((k + 1 : Nat) : Int) := by rw [show ((k : Int) + 1) = ((k + 1 : Nat) : Int) by omega]; exact wrap_small _ (by omega) (by omega)
 simp [eqGuard, binOp, go_sem, h3]
theorem fd01 {f : Int} (hf : 1 ≤ f ∧ f ≤ 3) (ls : List (List UInt8)) : fd f ls 0 = (ls.getD 0 []).take 2 ∧ fd f ls 1 = ((ls.getD 0 []).drop 2).take 3 := by
 have h : f = 1 ∨ f = 2 ∨ f = 3 := by omega
 rcases h with rfl | rfl | rfl <;> exact ⟨rfl, rfl⟩
theorem fd14 {f : Int} (hf : 1 ≤ f ∧ f ≤ 3) (ls : List (List UInt8)) : cB (fd f ls 14) 0 = cB (ls.getD 1 []) (widN f - 1) := by
 have h : f = 1 ∨ f = 2 ∨ f = 3 := by omega
 have key : ∀ k, cB (((ls.getD 1 []).drop k).take 1) 0 = cB (ls.getD 1 []) k := fun k => by rw [cB_take (by decide), cB_drop]; rfl
 rcases h with rfl | rfl | rfl
 · exact key 29
 · exact key 35
 · exact key 43
theorem one_60 {y : List UInt8} (h : y.length = 1) : (cB y 0 == 60) = decide (y = [60]) := by
 obtain ⟨a, rfl⟩ := List.length_eq_one_iff.1 h
 have e : cB [a] 0 = (a.toNat : Int) := rfl
 rw [e]
 by_cases ha : a = 60
 · subst ha; rfl
 · have h1 : a.toNat ≠ 60 := fun h => ha (UInt8.toNat.inj (by rw [h]; rfl))
   rw [decide_eq_false (by simpa using ha)]
   simp; omega
theorem empty_b {X : ByteArray} {x : List UInt8} (h : X = S x) : X.toList.isEmpty = decide (x = []) := by
 by_cases e : x = []
 · rw [s_nil h e, decide_eq_true e]
 · rw [s_ne h e, decide_eq_false e]
end Go.Proofs.YtibahbkjjfmbgaaGreatDoor
namespace Go.Proofs.YtibahbkjjfmbgaaGreatDoor
open Go.RowKit
set_option linter.unusedVariables false
def setB2 (ops : Array Oper) (n : Nat) : Bool :=
 (List.range ops.size).all fun i => match ops[i]? with
  | none => true
  | some o => o.guard.isNone && o.after.all (fun e => !Region.binds .any e || decide (e.on < i)) && (match o.dst with
   | none => true
   | some d => decide (d < n) && (List.range ops.size).all fun j => decide (j = i) || match ops[j]? with
    | none => true
    | some oj => decide (oj.dst ≠ some d))
theorem setB_at2 {ops : Array Oper} {n i : Nat} {o : Oper} (h : setB2 ops n = true) (hi : ops[i]? = some o) :
 o.guard = none ∧ (∀ e ∈ o.after, Region.binds .any e = true → e.on < i) ∧ ∀ d, o.dst = some d → d < n ∧ ∀ (j : Nat) (oj : Oper), ops[j]? = some oj → oj.dst = some d → j = i := by
 unfold setB2 at h
 rw [List.all_eq_true] at h
 have hlt : i < ops.size := (Array.getElem?_eq_some_iff.1 hi).1
 have h1 := h i (List.mem_range.2 hlt)
 rw [hi] at h1
 simp only [Bool.and_eq_true] at h1
 obtain ⟨⟨h2, h3⟩, h4⟩ := h1
 refine ⟨by simpa using h2, fun e he => ?_, fun d hd => ?_⟩
 · rw [Array.all_eq_true'] at h3
   intro hb
   have := h3 e he
   rw [hb] at this
   simpa using this
 · rw [hd] at h4
   simp only [Bool.and_eq_true, decide_eq_true_eq, List.all_eq_true] at h4
   refine ⟨h4.1, fun j oj hj hdj => ?_⟩
   have h5 := h4.2 j (List.mem_range.2 (Array.getElem?_eq_some_iff.1 hj).1)
   rw [hj] at h5
   simp only [Bool.or_eq_true, decide_eq_true_eq] at h5
   rcases h5 with h5 | h5
   · exact h5
   · exact absurd hdj h5
theorem SlotsIn.put2 {ops : Array Oper} {a0 a : Act} {S : Nat → Bool} {v v' : Nat → Value} {i : Nat} {o : Oper} (h : SlotsIn ops a0 S v a) (hB : setB2 ops a0.tmps.size = true) (hi : ops[i]? = some o) (hv : ∀ j, S j = true → v' j = v j) :
 SlotsIn ops a0 (fun j => S j || j == i) v' (a.put o.dst (v' i)) := by
 obtain ⟨h1, h2, h3, h4⟩ := h
 obtain ⟨_, _, hd⟩ := setB_at2 hB hi
 rcases ho : o.dst with _ | d
 · refine ⟨h1, h2, fun j oj d hj hdj hS => ?_, fun d hd' => ?_⟩
   · have hne : j ≠ i := by rintro rfl; rw [hi] at hj; injection hj with hj; rw [← hj, ho] at hdj; cases hdj
     have hS' : S j = true := by simpa [hne] using hS
     rw [hv j hS']
     exact h3 j oj d hj hdj hS'
   · exact h4 d fun j oj hj hdj => by have := hd' j oj hj hdj; simp only [Bool.or_eq_false_iff] at this; exact this.1
 ·
  obtain ⟨hlt, huniq⟩ := hd d ho
  have key : ∀ d', (a.put (some d) (v' i)).tmps.getD d' undef = if d' = d then v' i else a.tmps.getD d' undef := by
   intro d'
   show (a.tmps.setIfInBounds d (v' i)).getD d' undef = _
   by_cases e : d' = d
   · subst e
     simp [Array.getD_eq_getD_getElem?, h2, hlt]
   · rw [if_neg e]
     simp [Array.getD_eq_getD_getElem?, Ne.symm e]
  refine ⟨h1, by show (a.tmps.setIfInBounds d (v' i)).size = _; simpa using h2, fun j oj d' hj hdj hS => ?_, fun d' hd' => ?_⟩
  · rw [key]
    by_cases e : d' = d
    · subst e
      rw [if_pos rfl, huniq j oj hj hdj]
    · rw [if_neg e]
      have hne : j ≠ i := by rintro rfl; rw [hi] at hj; injection hj with hj; rw [← hj, ho] at hdj; exact e (Option.some.inj hdj).symm
      have hS' : S j = true := by simpa [hne] using hS
      rw [hv j hS']
      exact h3 j oj d' hj hdj hS'
  · rw [key]
    have e : d' ≠ d := by
     rintro rfl
     have := hd' i o hi ho
     simp at this
    rw [if_neg e]
    exact h4 d' fun j oj hj hdj => by have := hd' j oj hj hdj; simp only [Bool.or_eq_false_iff] at this; exact this.1
theorem wpAny_set2 {P : Program} {ops : Array Oper} {Q : Exit → Act → World → Prop} (a0 : Act) {B : Type} (v : B → Nat → Value) (W : B → (Nat → Bool) → World → Prop) (hB : setB2 ops a0.tmps.size = true)
 (hstep : ∀ (i : Nat) (o : Oper), ops[i]? = some o → ∀ (b : B) (S : Nat → Bool) (w : World) (a : Act), W b S w → S i = false → (∀ e ∈ o.after, Region.binds .any e = true → S e.on = true) → SlotsIn ops a0 S (v b) a →
  o.wp P a w (fun a' w' => ∃ b', (∀ j, S j = true → v b' j = v b j) ∧ a' = a.put o.dst (v b' i) ∧ W b' (fun j => S j || j == i) w') Q)
 (hend : ∀ (b : B) (w : World) (a : Act) (S : Nat → Bool), (∀ j, j < ops.size → S j = true) → SlotsIn ops a0 S (v b) a → W b S w → Q .normal a w) :
 ∀ (fuel : Nat) (listed : Array Bool) (a : Act) (w : World) (b : B), listed.size = ops.size → ((List.range ops.size).filter (fun i => !listed.getD i false)).length = fuel →
  SlotsIn ops a0 (fun j => listed.getD j false) (v b) a → W b (fun j => listed.getD j false) w → wpAny P .any ops Q fuel listed a w
 | 0, listed, a, w, b, hs, hf, hS, hW => by
  have hall : ∀ j, j < ops.size → listed.getD j false = true := by
   intro j hj
   have h0 := List.eq_nil_of_length_eq_zero hf
   rw [List.filter_eq_nil_iff] at h0
   simpa using h0 j (List.mem_range.2 hj)
  refine ⟨?_, hend b w a _ hall hS hW⟩
  unfold Region.ready
  rw [List.filter_eq_nil_iff]
  intro j hj
  have h1 := hall j (List.mem_range.1 hj)
  have h2 : listed.getD j true = true := by
   rw [Array.getD_eq_getD_getElem?] at h1 ⊢
   rcases h3 : listed[j]? with _ | x
   · rfl
   · rw [h3] at h1; exact h1
  rw [h2]
  simp
 | fuel + 1, listed, a, w, b, hs, hf, hS, hW => by
  refine ⟨fun hnil => ?_, fun i hi => ?_⟩
  ·
   -- the first that has not come up may come up
   exfalso
   obtain ⟨x, hx⟩ : ∃ x, x ∈ (List.range ops.size).filter (fun i => !listed.getD i false) := by
    rcases hl : (List.range ops.size).filter (fun i => !listed.getD i false) with _ | ⟨x, l⟩
    · rw [hl] at hf; simp at hf
    · exact ⟨x, by simp⟩
   have hex : ∃ x, x < ops.size ∧ listed.getD x false = false := ⟨x, by simpa using (List.mem_filter.1 hx).1, by simpa using (List.mem_filter.1 hx).2⟩
   obtain ⟨m, ⟨hm1, hm2⟩, hmin⟩ : ∃ m, (m < ops.size ∧ listed.getD m false = false) ∧ ∀ y, y < m → ¬ (y < ops.size ∧ listed.getD y false = false) := by
    obtain ⟨x, hx⟩ := hex
    induction x using Nat.strongRecOn with
    | _ x ih =>
     by_cases h : ∃ y, y < x ∧ (y < ops.size ∧ listed.getD y false = false)
     · obtain ⟨y, h1, h2⟩ := h; exact ih y h1 h2
     · exact ⟨x, hx, fun y hy h2 => h ⟨y, hy, h2⟩⟩
   obtain ⟨o, ho⟩ : ∃ o, ops[m]? = some o := ⟨_, Array.getElem?_eq_getElem hm1⟩
   have hmem : m ∈ Region.ready .any ops listed := by
    unfold Region.ready
    rw [List.mem_filter]
    refine ⟨List.mem_range.2 hm1, ?_⟩
    have h2 : listed.getD m true = false := by
     rw [Array.getD_eq_getD_getElem?] at hm2 ⊢
     rw [Array.getElem?_eq_getElem (by omega)] at hm2 ⊢
     exact hm2
    rw [h2, ho]
    simp only [Bool.not_false, Bool.true_and, Option.map_some, Option.getD_some]
    rw [Array.all_eq_true']
    intro e he
    rcases hbd : Region.binds .any e with _ | _
    · rfl
    have h3 := (setB_at2 hB ho).2.1 e he hbd
    rcases h4 : listed.getD e.on false with _ | _
    · exact absurd ⟨by omega, h4⟩ (hmin e.on h3)
    · simp
   rw [hnil] at hmem
   simp at hmem
  ·
   unfold Region.ready at hi
   rw [List.mem_filter] at hi
   obtain ⟨hi1, hi2⟩ := hi
   have hlt := List.mem_range.1 hi1
   obtain ⟨o, ho⟩ : ∃ o, ops[i]? = some o := ⟨_, Array.getElem?_eq_getElem hlt⟩
   rw [ho] at hi2
   simp only [Option.map_some, Option.getD_some, Bool.and_eq_true, Bool.not_eq_true'] at hi2
   have hun : listed.getD i false = false := by
    have h1 := hi2.1
    rw [Array.getD_eq_getD_getElem?, Array.getElem?_eq_getElem (by omega)] at h1 ⊢
    exact h1
   have hdep : ∀ e ∈ o.after, Region.binds .any e = true → listed.getD e.on false = true := by
    intro e he hb
    have h1 := hi2.2
    rw [Array.all_eq_true'] at h1
    have := h1 e he
    rw [hb] at this
    simpa using this
   obtain ⟨hg, _, _⟩ := setB_at2 hB ho
   have hwp := hstep i o ho b _ w a hW hun hdep hS
   unfold wpOp
   rw [ho]
   have hw : Region.wanted o (yielded ops a.tmps) = true := by simp [Region.wanted, hg]
   simp only [hw, if_true]
   left
   refine Oper.wp_mono ?_ hwp
   rintro a' w' ⟨b', hv, rfl, hW'⟩
   have hSe : (fun j => (listed.setIfInBounds i true).getD j false) = fun j => (listed.getD j false || j == i) := by
    funext j
    by_cases e : j = i
    · subst e
      simp [Array.getD_eq_getD_getElem?, hs, hlt]
    · simp [Array.getD_eq_getD_getElem?, Ne.symm e, e]
   refine wpAny_set2 a0 v W hB hstep hend fuel _ _ _ b' (by simpa using hs) ?_ (by rw [hSe]; exact hS.put2 hB ho hv) (by rw [hSe]; exact hW')
   have hfe : (List.range ops.size).filter (fun j => !(listed.setIfInBounds i true).getD j false) = ((List.range ops.size).filter (fun j => !listed.getD j false)).erase i := by
    have hnd : ((List.range ops.size).filter (fun j => !listed.getD j false)).Nodup := List.nodup_range.filter _
    rw [hnd.erase_eq_filter, List.filter_filter]
    apply List.filter_congr
    intro j _
    have h9 : (listed.setIfInBounds i true).getD j false = (listed.getD j false || j == i) := congrFun hSe j
    rw [h9]
    have e1 : ∀ c : Bool, (!(c || j == i)) = (j != i && !c) := fun c => by cases c <;> cases h : (j == i) <;> simp [bne, h]
    rw [e1]
   rw [hfe, List.length_erase_of_mem (List.mem_filter.2 ⟨hi1, by rw [hun]; rfl⟩), hf]
   rfl
theorem region_setE2 {P : Program} {ops : Array Oper} {Q : Exit → Act → World → Prop} {id : Nat} {w : World} (hm : P.follows .mixedOrders = true) (a0 : Act) {B : Type} (v : B → Nat → Value) (W : B → (Nat → Bool) → World → Prop) (hB : setB2 ops a0.tmps.size = true)
 (b0 : B) (h0 : W b0 (fun _ => false) { w with drawn := w.drawn + 1 })
 (hstep : ∀ (i : Nat) (o : Oper), ops[i]? = some o → ∀ (b : B) (S : Nat → Bool) (w : World) (a : Act), W b S w → S i = false → (∀ e ∈ o.after, Region.binds .any e = true → S e.on = true) → SlotsIn ops a0 S (v b) a →
  o.wp P a w (fun a' w' => ∃ b', (∀ j, S j = true → v b' j = v b j) ∧ a' = a.put o.dst (v b' i) ∧ W b' (fun j => S j || j == i) w') Q)
 (hend : ∀ (b : B) (w : World) (a : Act) (S : Nat → Bool), (∀ j, j < ops.size → S j = true) → SlotsIn ops a0 S (v b) a → W b S w → Q .normal a w) : (Code.region id ops true).wp P Q a0 w := by
 have hS : (fun j => (Array.replicate ops.size false).getD j false) = fun _ => false := by
  funext j
  rw [Array.getD_eq_getD_getElem?, Array.getElem?_replicate]
  split <;> rfl
 refine wp_region_any hm (wpAny_set2 a0 v W hB hstep hend ops.size _ a0 _ b0 (by simp) ?_ ?_ (by rw [hS]; exact h0))
 · have : (List.range ops.size).filter (fun i => !(Array.replicate ops.size false).getD i false) = List.range ops.size := by
    rw [List.filter_eq_self]
    intro j _
    rw [congrFun hS j]; rfl
   rw [this]; simp
 · rw [hS]
   exact ⟨rfl, rfl, fun j oj d _ _ h => (by cases h), fun d _ => rfl⟩
theorem region_set2 {P : Program} {ops : Array Oper} {Q : Exit → Act → World → Prop} {id : Nat} {w : World} (hm : P.follows .mixedOrders = true) (a0 : Act) {B : Type} (v : B → Nat → Value) (W : B → (Nat → Bool) → World → Prop) (hB : setB2 ops a0.tmps.size = true)
 (b0 : B) (h0 : W b0 (fun _ => false) { w with drawn := w.drawn + 1 })
 (hstep : ∀ (i : Nat) (o : Oper), ops[i]? = some o → ∀ (b : B) (S : Nat → Bool) (w : World) (a : Act), W b S w → S i = false → (∀ e ∈ o.after, Region.binds .any e = true → S e.on = true) → SlotsIn ops a0 S (v b) a →
  ∃ b', (∀ j, S j = true → v b' j = v b j) ∧ o.wp P a w (fun a' w' => a' = a.put o.dst (v b' i) ∧ W b' (fun j => S j || j == i) w') Q)
 (hend : ∀ (b : B) (w : World) (a : Act) (S : Nat → Bool), (∀ j, j < ops.size → S j = true) → SlotsIn ops a0 S (v b) a → W b S w → Q .normal a w) : (Code.region id ops true).wp P Q a0 w := by
 refine region_setE2 hm a0 v W hB b0 h0 (fun i o ho b S w a hW hSi hdep hS => ?_) hend
 obtain ⟨b', h1, h2⟩ := hstep i o ho b S w a hW hSi hdep hS
 refine Oper.wp_mono ?_ h2
 rintro a' w' ⟨e, h3⟩
 exact ⟨b', h1, e, h3⟩
theorem putAll_slots2 {ops : Array Oper} {a0 : Act} {v : Nat → Value} (hB : setB2 ops a0.tmps.size = true) : ∀ (l : List Oper) (n : Nat) (a : Act), n + l.length = ops.size → (∀ i o, l[i]? = some o → ops[n + i]? = some o) → SlotsIn ops a0 (fun j => decide (j < n)) v a → SlotsIn ops a0 (fun j => decide (j < ops.size)) v (putAll v n l a)
 | [], n, a, hn, _, h => by rw [← hn]; simpa [putAll] using h
 | o :: r, n, a, hn, hl, h => by
  refine putAll_slots2 hB r (n + 1) _ (by rw [← hn]; simp; omega) (fun i o' e => ?_) ?_
  · have := hl (i + 1) o' (by simpa using e)
    rw [show n + 1 + i = n + (i + 1) by omega]; exact this
  · have := h.put2 (v' := v) hB (hl 0 o (by simp)) (fun _ _ => rfl)
    have e : (fun j => decide (j < n + 1)) = fun j => (decide (j < n) || j == n + 0) := by
     funext j
     by_cases h1 : j < n
     · simp [h1]; omega
     · by_cases h2 : j = n
       · simp [h2]
       · have h3 : ¬ j < n + 1 := by omega
         simp [h1, h2, h3]
    rw [e]
    exact this
theorem SlotsIn.all2 {ops : Array Oper} {a0 a : Act} {S : Nat → Bool} {v : Nat → Value} (hB : setB2 ops a0.tmps.size = true) (h : SlotsIn ops a0 S v a) (hall : ∀ j, j < ops.size → S j = true) : a = putAll v 0 ops.toList a0 := by
 refine SlotsIn.uniq (S := fun j => decide (j < ops.size)) (ops := ops) (a0 := a0) (v := v) ?_ (putAll_slots2 hB ops.toList 0 a0 (by simp) (fun i o e => by rw [Nat.zero_add]; rw [Array.getElem?_toList] at e; exact e) ?_)
 · obtain ⟨h1, h2, h3, h4⟩ := h
   refine ⟨h1, h2, fun j oj d hj hd _ => h3 j oj d hj hd (hall j (Array.getElem?_eq_some_iff.1 hj).1), fun d hd => h4 d fun j oj hj hdj => ?_⟩
   have := hd j oj hj hdj
   have hlt := (Array.getElem?_eq_some_iff.1 hj).1
   simp only [decide_eq_false_iff_not] at this
   exact absurd hlt this
 · exact ⟨rfl, rfl, fun j oj d _ _ h => by simp at h, fun d _ => rfl⟩
theorem region_setC2 {P : Program} {ops : Array Oper} {Q : Exit → Act → World → Prop} {id : Nat} {w : World} (hm : P.follows .mixedOrders = true) (a0 : Act) {B : Type} (v : B → Nat → Value) (W : B → (Nat → Bool) → World → Prop) (hB : setB2 ops a0.tmps.size = true)
 (b0 : B) (h0 : W b0 (fun _ => false) { w with drawn := w.drawn + 1 })
 (hstep : ∀ (i : Nat) (o : Oper), ops[i]? = some o → ∀ (b : B) (S : Nat → Bool) (w : World) (a : Act), W b S w → S i = false → (∀ e ∈ o.after, Region.binds .any e = true → S e.on = true) → SlotsIn ops a0 S (v b) a → Closed ops S →
  ∃ b', (∀ j, S j = true → v b' j = v b j) ∧ o.wp P a w (fun a' w' => a' = a.put o.dst (v b' i) ∧ W b' (fun j => S j || j == i) w') Q)
 (hend : ∀ (b : B) (w : World) (S : Nat → Bool), (∀ j, j < ops.size → S j = true) → W b S w → Q .normal (putAll (v b) 0 ops.toList a0) w) : (Code.region id ops true).wp P Q a0 w := by
 refine region_set2 hm a0 v (fun b S w => W b S w ∧ Closed ops S) hB b0 ⟨h0, fun j oj _ h => by cases h⟩ ?_ (fun b w a S h1 h2 h3 => by rw [h2.all2 hB h1]; exact hend b w S h1 h3.1)
 intro i o ho b S w a hW hSi hdep hS
 obtain ⟨b', h1, h2⟩ := hstep i o ho b S w a hW.1 hSi hdep hS hW.2
 refine ⟨b', h1, Oper.wp_mono ?_ h2⟩
 rintro a' w' ⟨e0, h3⟩
 refine ⟨e0, h3, fun j oj hj hSj e he hb => ?_⟩
 by_cases hji : j = i
 · subst hji
   rw [ho] at hj
   injection hj with hj
   subst hj
   show (S e.on || e.on == j) = true
   rw [hdep e he hb]; rfl
 · have : S j = true := by simpa [hji] using hSj
   show (S e.on || e.on == i) = true
   rw [hW.2 j oj hj this e he hb]; rfl
end Go.Proofs.YtibahbkjjfmbgaaGreatDoor
