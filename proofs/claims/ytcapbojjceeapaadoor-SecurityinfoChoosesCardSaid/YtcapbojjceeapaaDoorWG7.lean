/-
  What is proved here: plain words for regions that draw their order and whose callees lay blocks of their own (the library's class of worlds, in the words of Below). Nothing of the program is used.
-/
import Derived.Test.YtcapbojjceeapaaDoorWG3
import Derived.Lib.QuietBelow
import Derived.Test.YtcapbojjceeapaaDoorRows
import Derived.Test.YtcapbojjceeapaaDoorWG1
import Derived.Orders
import Derived.Tactics
import Derived.Laws.CopyOwn
import Derived.Great.BuildSlice
import Derived.Great.Walk
import Derived.Deep.AppendLies
namespace Go.Proofs.YtcapbojjceeapaaDoor
open Go.RowKit
theorem below_of_regrown {w w' : World} (h : ∃ p : Regrown, w' = Go.Sort.grow (redrawn w p.d) p.os) : Below w.heap.size w w' := by
  obtain ⟨p, rfl⟩ := h
  exact below_regrown w p.d p.os
theorem quiet_up {P : Program} {f : FuncId} {args : Array Value} {w : World} {v : Value} (h : ∀ w', Below w.heap.size w w' → Calls P f args w' fun e w'' => e = .returned v ∧ Below w'.heap.size w' w'') (d : Nat) (os : Array Obj) :
    Calls P f args (Go.Sort.grow (redrawn w d) os) fun e w'' => e = .returned v ∧ ∃ p : Regrown, w'' = Go.Sort.grow (redrawn w p.d) p.os :=
  Calls.regrown_of (h _ (below_regrown w d os))
theorem RowV.quiet {w : World} {g k : Nat} {vs : List Value} {u : Value} (h : RowV w g vs) (hu : vs[k]? = some u) (d : Nat) (os : Array Obj) : (Go.Sort.grow (redrawn w d) os).cell? ⟨g, k, none⟩ = some u :=
  cell_regrown ((h.cell k).trans hu) d os
end Go.Proofs.YtcapbojjceeapaaDoor
namespace Go.Proofs.YtcapbojjceeapaaDoor
open Go.RowKit
set_option linter.unusedVariables false
def setB (ops : Array Oper) (n : Nat) : Bool :=
  (List.range ops.size).all fun i => match ops[i]? with
    | none => true
    | some o => o.guard.isNone && o.after.all (fun e => decide (e.on < i)) && (match o.dst with
      | none => true
      | some d => decide (d < n) && (List.range ops.size).all fun j => decide (j = i) || match ops[j]? with
        | none => true
        | some oj => decide (oj.dst ≠ some d))
def SlotsIn (ops : Array Oper) (a0 : Act) (S : Nat → Bool) (v : Nat → Value) (a : Act) : Prop :=
  a.defers = a0.defers ∧ a.tmps.size = a0.tmps.size ∧ (∀ (j : Nat) (oj : Oper) (d : Nat), ops[j]? = some oj → oj.dst = some d → S j = true → a.tmps.getD d undef = v j) ∧
    ∀ d, (∀ (j : Nat) (oj : Oper), ops[j]? = some oj → oj.dst = some d → S j = false) → a.tmps.getD d undef = a0.tmps.getD d undef
theorem setB_at {ops : Array Oper} {n i : Nat} {o : Oper} (h : setB ops n = true) (hi : ops[i]? = some o) :
    o.guard = none ∧ (∀ e ∈ o.after, e.on < i) ∧ ∀ d, o.dst = some d → d < n ∧ ∀ (j : Nat) (oj : Oper), ops[j]? = some oj → oj.dst = some d → j = i := by
  unfold setB at h
  rw [List.all_eq_true] at h
  have hlt : i < ops.size := (Array.getElem?_eq_some_iff.1 hi).1
  have h1 := h i (List.mem_range.2 hlt)
  rw [hi] at h1
  simp only [Bool.and_eq_true] at h1
  obtain ⟨⟨h2, h3⟩, h4⟩ := h1
  refine ⟨by simpa using h2, fun e he => ?_, fun d hd => ?_⟩
  · rw [Array.all_eq_true'] at h3
    simpa using h3 e he
  · rw [hd] at h4
    simp only [Bool.and_eq_true, decide_eq_true_eq, List.all_eq_true] at h4
    refine ⟨h4.1, fun j oj hj hdj => ?_⟩
    have h5 := h4.2 j (List.mem_range.2 (Array.getElem?_eq_some_iff.1 hj).1)
    rw [hj] at h5
    simp only [Bool.or_eq_true, decide_eq_true_eq] at h5
    rcases h5 with h5 | h5
    · exact h5
    · exact absurd hdj h5
theorem SlotsIn.put {ops : Array Oper} {a0 a : Act} {S : Nat → Bool} {v v' : Nat → Value} {i : Nat} {o : Oper} (h : SlotsIn ops a0 S v a) (hB : setB ops a0.tmps.size = true) (hi : ops[i]? = some o) (hv : ∀ j, S j = true → v' j = v j) :
    SlotsIn ops a0 (fun j => S j || j == i) v' (a.put o.dst (v' i)) := by
  obtain ⟨h1, h2, h3, h4⟩ := h
  obtain ⟨_, _, hd⟩ := setB_at hB hi
  rcases ho : o.dst with _ | d
  · refine ⟨h1, h2, fun j oj d hj hdj hS => ?_, fun d hd' => ?_⟩
    · have hne : j ≠ i := by rintro rfl; rw [hi] at hj; injection hj with hj; rw [← hj, ho] at hdj; cases hdj
      have hS' : S j = true := by simpa [hne] using hS
      rw [hv j hS']
      exact h3 j oj d hj hdj hS'
    · exact h4 d fun j oj hj hdj => by have := hd' j oj hj hdj; simp only [Bool.or_eq_false_iff] at this; exact this.1
  · obtain ⟨hlt, huniq⟩ := hd d ho
    have key : ∀ d', (a.put (some d) (v' i)).tmps.getD d' undef = if d' = d then v' i else a.tmps.getD d' undef := by
      intro d'
      show (a.tmps.setIfInBounds d (v' i)).getD d' undef = _
      by_cases e : d' = d
      · subst e
        simp [Array.getD_eq_getD_getElem?, h2, hlt]
      · rw [if_neg e]
        simp [Array.getD_eq_getD_getElem?, Ne.symm e]
    refine ⟨h1, by show (a.tmps.setIfInBounds d (v' i)).size = _; simpa using h2, fun j oj d' hj hdj hS => ?_, fun d' hd' => ?_⟩
    · rw [key]
      by_cases e : d' = d
      · subst e
        rw [if_pos rfl, huniq j oj hj hdj]
      · rw [if_neg e]
        have hne : j ≠ i := by rintro rfl; rw [hi] at hj; injection hj with hj; rw [← hj, ho] at hdj; exact e (Option.some.inj hdj).symm
        have hS' : S j = true := by simpa [hne] using hS
        rw [hv j hS']
        exact h3 j oj d' hj hdj hS'
    · rw [key]
      have e : d' ≠ d := by
        rintro rfl
        have := hd' i o hi ho
        simp at this
      rw [if_neg e]
      exact h4 d' fun j oj hj hdj => by have := hd' j oj hj hdj; simp only [Bool.or_eq_false_iff] at this; exact this.1
end Go.Proofs.YtcapbojjceeapaaDoor
namespace Go.Proofs.YtcapbojjceeapaaDoor
open Go.RowKit
def S (x : List UInt8) : ByteArray := ⟨x.toArray⟩
theorem run_conv (w : World) (B : Nat) (A : Option Addr) (x : List UInt8) (h : Sees w B A (Us x)) (n c : Nat) (hn : n = x.length) :
    (convert 23 9 (.slice A n c)).run Tryd.prog w = .ok (.string (S x)) w := by
  subst hn
  have hx : strOfNums (x.map fun u => (u.toNat : Int)) = S x := by
    simp [strOfNums, S, Function.comp_def]
  rcases h with h | ⟨b, off, rfl, hb, hc⟩
  · have : x = [] := by simpa [Us] using h
    subst this
    rcases A with _ | a
    · exact run_convert_bytes_nil w _ _ Tryd.underlying23 Tryd.underlying5 _ _ _ Tryd.underlying9
    · rw [run_convert_bytes_string w _ _ _ _ _ _ Tryd.underlying23 Tryd.underlying5 Tryd.underlying9]
      exact run_bytesToString w a 0 c [] (by simpa using run_loadCells_list (P := Tryd.prog) w a [] (fun j v hj => by simp at hj))
  · have := run_convert_bytes_arg (P := Tryd.prog) w 23 5 Tryd.underlying23 Tryd.underlying5 b off x.length c (x.map fun u => (u.toNat : Int)) (by simp)
      (fun i hi => by rw [hc i (by rw [Us_length]; exact hi), Us_get hi]; simp [hi]) 9 Tryd.underlying9
    rw [hx] at this
    exact this
theorem S_toList (x : List UInt8) : (S x).toList = x := ByteArray.toList_mk x
end Go.Proofs.YtcapbojjceeapaaDoor
namespace Go.Proofs.YtcapbojjceeapaaDoor
open Go.RowKit
set_option linter.unusedVariables false
def allI (R : Nat → Oper → Prop) : Nat → List Oper → Prop
  | _, [] => True
  | n, o :: r => R n o ∧ allI R (n + 1) r
theorem allI.nil {R : Nat → Oper → Prop} {n : Nat} : allI R n [] := trivial
theorem allI.cons {R : Nat → Oper → Prop} {n : Nat} {o : Oper} {r : List Oper} (h : R n o) (t : allI R (n + 1) r) : allI R n (o :: r) := ⟨h, t⟩
theorem allI.at {R : Nat → Oper → Prop} : ∀ {l : List Oper} {n : Nat}, allI R n l → ∀ (i : Nat) (o : Oper), l[i]? = some o → R (n + i) o
  | [], n, _, i, o, h => by simp at h
  | x :: r, n, h, 0, o, e => by simp at e; subst e; exact h.1
  | x :: r, n, h, i + 1, o, e => by
    have := allI.at h.2 i o (by simpa using e)
    rw [show n + (i + 1) = n + 1 + i by omega]; exact this
theorem ops_all {R : Nat → Oper → Prop} {l : List Oper} (h : allI R 0 l) : ∀ (i : Nat) (o : Oper), l.toArray[i]? = some o → R i o := by
  intro i o e
  have := allI.at h i o (by simpa using e)
  rwa [Nat.zero_add] at this
section
variable {ops : Array Oper} {a0 a : Act} {S : Nat → Bool} {v : Nat → Value} {o : Oper}
theorem SlotsIn.old (hS : SlotsIn ops a0 S v a) (d : Nat) (h : (ops.toList.all fun o => o.dst != some d) = true) : a.eval (.tmp d) = a0.tmps.getD d undef := by
  refine hS.2.2.2 d fun j oj hj hd => ?_
  rw [List.all_eq_true] at h
  have := h oj (by rw [← Array.getElem?_toList] at hj; exact List.mem_of_getElem? hj)
  rw [hd] at this
  simp at this
theorem SlotsIn.get (hS : SlotsIn ops a0 S v a) (j : Nat) {oj : Oper} {d : Nat} (h : S j = true) (hj : ops[j]? = some oj) (hd : oj.dst = some d) : a.eval (.tmp d) = v j := hS.2.2.1 j oj d hj hd h
theorem dep_at (h : ∀ e ∈ o.after, Region.binds .any e = true → S e.on = true) (j : Nat) (hj : (o.after.toList.any fun e => Region.binds .any e && e.on == j) = true) : S j = true := by
  rw [List.any_eq_true] at hj
  obtain ⟨e, he, hb⟩ := hj
  simp only [Bool.and_eq_true, beq_iff_eq] at hb
  rw [← hb.2]
  exact h e (by simpa using he) hb.1
end
def Closed (ops : Array Oper) (S : Nat → Bool) : Prop := ∀ (j : Nat) (oj : Oper), ops[j]? = some oj → S j = true → ∀ e ∈ oj.after, Region.binds .any e = true → S e.on = true
theorem SlotsIn.before {ops : Array Oper} {a0 a : Act} {S : Nat → Bool} {v : Nat → Value} (hS : SlotsIn ops a0 S v a) (hC : Closed ops S) {i : Nat} (hSi : S i = false) (d : Nat) (h : (ops.toList.all fun o => o.dst != some d || o.after.toList.any fun e => Region.binds .any e && e.on == i) = true) : a.eval (.tmp d) = a0.tmps.getD d undef := by
  refine hS.2.2.2 d fun j oj hj hd => ?_
  rw [List.all_eq_true] at h
  have := h oj (by rw [← Array.getElem?_toList] at hj; exact List.mem_of_getElem? hj)
  rw [hd] at this
  simp only [bne_self_eq_false, Bool.false_or] at this
  rcases hq : S j with _ | _
  · rfl
  · have := dep_at (hC j oj hj hq) i this
    rw [hSi] at this
    cases this
def putAll (v : Nat → Value) : Nat → List Oper → Act → Act
  | _, [], a => a
  | n, o :: r, a => putAll v (n + 1) r (a.put o.dst (v n))
theorem putAll_slots {ops : Array Oper} {a0 : Act} {v : Nat → Value} (hB : setB ops a0.tmps.size = true) : ∀ (l : List Oper) (n : Nat) (a : Act), n + l.length = ops.size → (∀ i o, l[i]? = some o → ops[n + i]? = some o) → SlotsIn ops a0 (fun j => decide (j < n)) v a → SlotsIn ops a0 (fun j => decide (j < ops.size)) v (putAll v n l a)
  | [], n, a, hn, _, h => by rw [← hn]; simpa [putAll] using h
  | o :: r, n, a, hn, hl, h => by
    refine putAll_slots hB r (n + 1) _ (by rw [← hn]; simp; omega) (fun i o' e => ?_) ?_
    · have := hl (i + 1) o' (by simpa using e)
      rw [show n + 1 + i = n + (i + 1) by omega]; exact this
    · have := h.put (v' := v) hB (hl 0 o (by simp)) (fun _ _ => rfl)
      have e : (fun j => decide (j < n + 1)) = fun j => (decide (j < n) || j == n + 0) := by
        funext j
        by_cases h1 : j < n
        · simp [h1]; omega
        · by_cases h2 : j = n
          · simp [h2]
          · have h3 : ¬ j < n + 1 := by omega
            simp [h1, h2, h3]
      rw [e]
      exact this
theorem SlotsIn.uniq {ops : Array Oper} {a0 a a' : Act} {S : Nat → Bool} {v : Nat → Value} (h : SlotsIn ops a0 S v a) (h' : SlotsIn ops a0 S v a') : a = a' := by
  obtain ⟨d1, s1, p1, q1⟩ := h
  obtain ⟨d2, s2, p2, q2⟩ := h'
  have key : a.tmps = a'.tmps := by
    apply Array.ext (by rw [s1, s2])
    intro d h1 h2
    have e : a.tmps.getD d undef = a'.tmps.getD d undef := by
      by_cases hx : ∃ j oj, ops[j]? = some oj ∧ oj.dst = some d ∧ S j = true
      · obtain ⟨j, oj, hj, hd, hS⟩ := hx
        rw [p1 j oj d hj hd hS, p2 j oj d hj hd hS]
      · have hn : ∀ j oj, ops[j]? = some oj → oj.dst = some d → S j = false := fun j oj hj hd => by
          rcases hq : S j with _ | _
          · rfl
          · exact absurd ⟨j, oj, hj, hd, hq⟩ hx
        rw [q1 d hn, q2 d hn]
    simpa [Array.getD_eq_getD_getElem?, h1, h2] using e
  obtain ⟨t1, x1⟩ := a
  obtain ⟨t2, x2⟩ := a'
  simp only at key d1 d2
  rw [key, d1, d2]
theorem SlotsIn.all {ops : Array Oper} {a0 a : Act} {S : Nat → Bool} {v : Nat → Value} (hB : setB ops a0.tmps.size = true) (h : SlotsIn ops a0 S v a) (hall : ∀ j, j < ops.size → S j = true) : a = putAll v 0 ops.toList a0 := by
  refine SlotsIn.uniq (S := fun j => decide (j < ops.size)) (ops := ops) (a0 := a0) (v := v) ?_ (putAll_slots hB ops.toList 0 a0 (by simp) (fun i o e => by rw [Nat.zero_add]; rw [Array.getElem?_toList] at e; exact e) ?_)
  · obtain ⟨h1, h2, h3, h4⟩ := h
    refine ⟨h1, h2, fun j oj d hj hd _ => h3 j oj d hj hd (hall j (Array.getElem?_eq_some_iff.1 hj).1), fun d hd => h4 d fun j oj hj hdj => ?_⟩
    have := hd j oj hj hdj
    have hlt := (Array.getElem?_eq_some_iff.1 hj).1
    simp only [decide_eq_false_iff_not] at this
    exact absurd hlt this
  · exact ⟨rfl, rfl, fun j oj d _ _ h => by simp at h, fun d _ => rfl⟩
section
variable {P : Program} {a : Act} {w w' : World} {K : Act → World → Prop} {Q : Exit → Act → World → Prop} {o : Oper}
theorem o_mv (x : Operand) (ho : o.op = .move x) {v : Value} (hx : a.eval x = v) (hK : K (a.put o.dst v) w) : o.wp P a w K Q := by
  unfold Oper.wp execOp
  simp only [ho, hx, Sem.run_pure]
  exact hK
theorem o_as (x : Operand) (ho : o.op = .assign x) {v : Value} (hx : a.eval x = v) (hK : K (a.put o.dst v) w) : o.wp P a w K Q := by
  unfold Oper.wp execOp
  simp only [ho, hx, Sem.run_pure]
  exact hK
theorem o_fa (T : TypeId) (x : Operand) (k : Nat) (ho : o.op = .fieldAddr T x k) {p q : Value} (hx : a.eval x = p) (hr : (Instr.fieldAt T p k).run P w = .ok q w) (hK : K (a.put o.dst q) w) : o.wp P a w K Q := by
  unfold Oper.wp execOp
  simp only [ho, hx, Sem.run_bind, hr, Result.andThen_ok, Sem.run_pure]
  exact hK
theorem o_ld (T : TypeId) (x : Operand) (ho : o.op = .load T x) {g k : Nat} {v : Value} (hx : a.eval x = .pointer (some ⟨g, k, none⟩)) (hc : w.cell? ⟨g, k, none⟩ = some v) (ha : ∀ w, (isAgg T).run P w = .ok false w) (hK : K (a.put o.dst v) w) : o.wp P a w K Q := by
  have hr : (loadVar T ⟨g, k, none⟩).run P w = .ok v w := by simp [loadVar, ha, hc, go_sem]
  unfold Oper.wp execOp
  simp only [ho, hx, Instr.loadAt, Instr.sureAddr, Sem.run_bind, Sem.run_pure, Result.andThen_ok, hr]
  exact hK
theorem o_sl (T : TypeId) (x : Operand) (lo hi mx : Option Operand) (ho : o.op = .slice T x lo hi mx) {v vx : Value} {l h m : Option Value} (hx : a.eval x = vx) (hl : lo.map a.eval = l) (hh : hi.map a.eval = h) (hm : mx.map a.eval = m) (hr : (Instr.sliceAt T vx l h m).run P w = .ok v w) (hK : K (a.put o.dst v) w) : o.wp P a w K Q := by
  unfold Oper.wp execOp
  simp only [ho, hx, hl, hh, hm, Sem.run_bind, hr, Result.andThen_ok, Sem.run_pure]
  exact hK
theorem o_ix (T : TypeId) (x y : Operand) (ho : o.op = .indexAddr T x y) {v vx vy : Value} (hx : a.eval x = vx) (hy : a.eval y = vy) (hr : (Instr.indexAt T vx vy).run P w = .ok v w) (hK : K (a.put o.dst v) w) : o.wp P a w K Q := by
  unfold Oper.wp execOp
  simp only [ho, hx, hy, Sem.run_bind, hr, Result.andThen_ok, Sem.run_pure]
  exact hK
end
def setB2 (ops : Array Oper) (n : Nat) : Bool :=
  (List.range ops.size).all fun i => match ops[i]? with
    | none => true
    | some o => o.guard.isNone && o.after.all (fun e => !Region.binds .any e || decide (e.on < i)) && (match o.dst with
      | none => true
      | some d => decide (d < n) && (List.range ops.size).all fun j => decide (j = i) || match ops[j]? with
        | none => true
        | some oj => decide (oj.dst ≠ some d))
theorem setB_at2 {ops : Array Oper} {n i : Nat} {o : Oper} (h : setB2 ops n = true) (hi : ops[i]? = some o) :
    o.guard = none ∧ (∀ e ∈ o.after, Region.binds .any e = true → e.on < i) ∧ ∀ d, o.dst = some d → d < n ∧ ∀ (j : Nat) (oj : Oper), ops[j]? = some oj → oj.dst = some d → j = i := by
  unfold setB2 at h
  rw [List.all_eq_true] at h
  have hlt : i < ops.size := (Array.getElem?_eq_some_iff.1 hi).1
  have h1 := h i (List.mem_range.2 hlt)
  rw [hi] at h1
  simp only [Bool.and_eq_true] at h1
  obtain ⟨⟨h2, h3⟩, h4⟩ := h1
  refine ⟨by simpa using h2, fun e he => ?_, fun d hd => ?_⟩
  · rw [Array.all_eq_true'] at h3
    intro hb
    have := h3 e he
    rw [hb] at this
    simpa using this
  · rw [hd] at h4
    simp only [Bool.and_eq_true, decide_eq_true_eq, List.all_eq_true] at h4
    refine ⟨h4.1, fun j oj hj hdj => ?_⟩
    have h5 := h4.2 j (List.mem_range.2 (Array.getElem?_eq_some_iff.1 hj).1)
    rw [hj] at h5
    simp only [Bool.or_eq_true, decide_eq_true_eq] at h5
    rcases h5 with h5 | h5
    · exact h5
    · exact absurd hdj h5
theorem SlotsIn.put2 {ops : Array Oper} {a0 a : Act} {S : Nat → Bool} {v v' : Nat → Value} {i : Nat} {o : Oper} (h : SlotsIn ops a0 S v a) (hB : setB2 ops a0.tmps.size = true) (hi : ops[i]? = some o) (hv : ∀ j, S j = true → v' j = v j) :
    SlotsIn ops a0 (fun j => S j || j == i) v' (a.put o.dst (v' i)) := by
  obtain ⟨h1, h2, h3, h4⟩ := h
  obtain ⟨_, _, hd⟩ := setB_at2 hB hi
  rcases ho : o.dst with _ | d
  · refine ⟨h1, h2, fun j oj d hj hdj hS => ?_, fun d hd' => ?_⟩
    · have hne : j ≠ i := by rintro rfl; rw [hi] at hj; injection hj with hj; rw [← hj, ho] at hdj; cases hdj
      have hS' : S j = true := by simpa [hne] using hS
      rw [hv j hS']
      exact h3 j oj d hj hdj hS'
    · exact h4 d fun j oj hj hdj => by have := hd' j oj hj hdj; simp only [Bool.or_eq_false_iff] at this; exact this.1
  · obtain ⟨hlt, huniq⟩ := hd d ho
    have key : ∀ d', (a.put (some d) (v' i)).tmps.getD d' undef = if d' = d then v' i else a.tmps.getD d' undef := by
      intro d'
      show (a.tmps.setIfInBounds d (v' i)).getD d' undef = _
      by_cases e : d' = d
      · subst e
        simp [Array.getD_eq_getD_getElem?, h2, hlt]
      · rw [if_neg e]
        simp [Array.getD_eq_getD_getElem?, Ne.symm e]
    refine ⟨h1, by show (a.tmps.setIfInBounds d (v' i)).size = _; simpa using h2, fun j oj d' hj hdj hS => ?_, fun d' hd' => ?_⟩
    · rw [key]
      by_cases e : d' = d
      · subst e
        rw [if_pos rfl, huniq j oj hj hdj]
      · rw [if_neg e]
        have hne : j ≠ i := by rintro rfl; rw [hi] at hj; injection hj with hj; rw [← hj, ho] at hdj; exact e (Option.some.inj hdj).symm
        have hS' : S j = true := by simpa [hne] using hS
        rw [hv j hS']
        exact h3 j oj d' hj hdj hS'
    · rw [key]
      have e : d' ≠ d := by
        rintro rfl
        have := hd' i o hi ho
        simp at this
      rw [if_neg e]
      exact h4 d' fun j oj hj hdj => by have := hd' j oj hj hdj; simp only [Bool.or_eq_false_iff] at this; exact this.1
theorem wpAny_set2 {P : Program} {ops : Array Oper} {Q : Exit → Act → World → Prop} (a0 : Act) {B : Type} (v : B → Nat → Value) (W : B → (Nat → Bool) → World → Prop) (hB : setB2 ops a0.tmps.size = true)
    (hstep : ∀ (i : Nat) (o : Oper), ops[i]? = some o → ∀ (b : B) (S : Nat → Bool) (w : World) (a : Act), W b S w → S i = false → (∀ e ∈ o.after, Region.binds .any e = true → S e.on = true) → SlotsIn ops a0 S (v b) a →
      o.wp P a w (fun a' w' => ∃ b', (∀ j, S j = true → v b' j = v b j) ∧ a' = a.put o.dst (v b' i) ∧ W b' (fun j => S j || j == i) w') Q)
    (hend : ∀ (b : B) (w : World) (a : Act) (S : Nat → Bool), (∀ j, j < ops.size → S j = true) → SlotsIn ops a0 S (v b) a → W b S w → Q .normal a w) :
    ∀ (fuel : Nat) (listed : Array Bool) (a : Act) (w : World) (b : B), listed.size = ops.size → ((List.range ops.size).filter (fun i => !listed.getD i false)).length = fuel →
      SlotsIn ops a0 (fun j => listed.getD j false) (v b) a → W b (fun j => listed.getD j false) w → wpAny P .any ops Q fuel listed a w
  | 0, listed, a, w, b, hs, hf, hS, hW => by
    have hall : ∀ j, j < ops.size → listed.getD j false = true := by
      intro j hj
      have h0 := List.eq_nil_of_length_eq_zero hf
      rw [List.filter_eq_nil_iff] at h0
      simpa using h0 j (List.mem_range.2 hj)
    refine ⟨?_, hend b w a _ hall hS hW⟩
    unfold Region.ready
    rw [List.filter_eq_nil_iff]
    intro j hj
    have h1 := hall j (List.mem_range.1 hj)
    have h2 : listed.getD j true = true := by
      rw [Array.getD_eq_getD_getElem?] at h1 ⊢
      rcases h3 : listed[j]? with _ | x
      · rfl
      · rw [h3] at h1; exact h1
    rw [h2]
    simp
  | fuel + 1, listed, a, w, b, hs, hf, hS, hW => by
    refine ⟨fun hnil => ?_, fun i hi => ?_⟩
    · -- the first that has not come up may come up
      exfalso
      obtain ⟨x, hx⟩ : ∃ x, x ∈ (List.range ops.size).filter (fun i => !listed.getD i false) := by
        rcases hl : (List.range ops.size).filter (fun i => !listed.getD i false) with _ | ⟨x, l⟩
        · rw [hl] at hf; simp at hf
        · exact ⟨x, by simp⟩
      have hex : ∃ x, x < ops.size ∧ listed.getD x false = false := ⟨x, by simpa using (List.mem_filter.1 hx).1, by simpa using (List.mem_filter.1 hx).2⟩
      obtain ⟨m, ⟨hm1, hm2⟩, hmin⟩ : ∃ m, (m < ops.size ∧ listed.getD m false = false) ∧ ∀ y, y < m → ¬ (y < ops.size ∧ listed.getD y false = false) := by
        obtain ⟨x, hx⟩ := hex
        induction x using Nat.strongRecOn with
        | _ x ih =>
          by_cases h : ∃ y, y < x ∧ (y < ops.size ∧ listed.getD y false = false)
          · obtain ⟨y, h1, h2⟩ := h; exact ih y h1 h2
          · exact ⟨x, hx, fun y hy h2 => h ⟨y, hy, h2⟩⟩
      obtain ⟨o, ho⟩ : ∃ o, ops[m]? = some o := ⟨_, Array.getElem?_eq_getElem hm1⟩
      have hmem : m ∈ Region.ready .any ops listed := by
        unfold Region.ready
        rw [List.mem_filter]
        refine ⟨List.mem_range.2 hm1, ?_⟩
        have h2 : listed.getD m true = false := by
          rw [Array.getD_eq_getD_getElem?] at hm2 ⊢
          rw [Array.getElem?_eq_getElem (by omega)] at hm2 ⊢
          exact hm2
        rw [h2, ho]
        simp only [Bool.not_false, Bool.true_and, Option.map_some, Option.getD_some]
        rw [Array.all_eq_true']
        intro e he
        rcases hbd : Region.binds .any e with _ | _
        · rfl
        have h3 := (setB_at2 hB ho).2.1 e he hbd
        rcases h4 : listed.getD e.on false with _ | _
        · exact absurd ⟨by omega, h4⟩ (hmin e.on h3)
        · simp
      rw [hnil] at hmem
      simp at hmem
    · unfold Region.ready at hi
      rw [List.mem_filter] at hi
      obtain ⟨hi1, hi2⟩ := hi
      have hlt := List.mem_range.1 hi1
      obtain ⟨o, ho⟩ : ∃ o, ops[i]? = some o := ⟨_, Array.getElem?_eq_getElem hlt⟩
      rw [ho] at hi2
      simp only [Option.map_some, Option.getD_some, Bool.and_eq_true, Bool.not_eq_true'] at hi2
      have hun : listed.getD i false = false := by
        have h1 := hi2.1
        rw [Array.getD_eq_getD_getElem?, Array.getElem?_eq_getElem (by omega)] at h1 ⊢
        exact h1
      have hdep : ∀ e ∈ o.after, Region.binds .any e = true → listed.getD e.on false = true := by
        intro e he hb
        have h1 := hi2.2
        rw [Array.all_eq_true'] at h1
        have := h1 e he
        rw [hb] at this
        simpa using this
      obtain ⟨hg, _, _⟩ := setB_at2 hB ho
      have hwp := hstep i o ho b _ w a hW hun hdep hS
      unfold wpOp
      rw [ho]
      have hw : Region.wanted o (yielded ops a.tmps) = true := by simp [Region.wanted, hg]
      simp only [hw, if_true]
      left
      refine Oper.wp_mono ?_ hwp
      rintro a' w' ⟨b', hv, rfl, hW'⟩
      have hSe : (fun j => (listed.setIfInBounds i true).getD j false) = fun j => (listed.getD j false || j == i) := by
        funext j
        by_cases e : j = i
        · subst e
          simp [Array.getD_eq_getD_getElem?, hs, hlt]
        · simp [Array.getD_eq_getD_getElem?, Ne.symm e, e]
      refine wpAny_set2 a0 v W hB hstep hend fuel _ _ _ b' (by simpa using hs) ?_ (by rw [hSe]; exact hS.put2 hB ho hv) (by rw [hSe]; exact hW')
      have hfe : (List.range ops.size).filter (fun j => !(listed.setIfInBounds i true).getD j false) = ((List.range ops.size).filter (fun j => !listed.getD j false)).erase i := by
        have hnd : ((List.range ops.size).filter (fun j => !listed.getD j false)).Nodup := List.nodup_range.filter _
        rw [hnd.erase_eq_filter, List.filter_filter]
        apply List.filter_congr
        intro j _
        have h9 : (listed.setIfInBounds i true).getD j false = (listed.getD j false || j == i) := congrFun hSe j
        rw [h9]
        have e1 : ∀ c : Bool, (!(c || j == i)) = (j != i && !c) := fun c => by cases c <;> cases h : (j == i) <;> simp [bne, h]
        rw [e1]
      rw [hfe, List.length_erase_of_mem (List.mem_filter.2 ⟨hi1, by rw [hun]; rfl⟩), hf]
      rfl
theorem region_setE2 {P : Program} {ops : Array Oper} {Q : Exit → Act → World → Prop} {id : Nat} {w : World} (hm : P.follows .mixedOrders = true) (a0 : Act) {B : Type} (v : B → Nat → Value) (W : B → (Nat → Bool) → World → Prop) (hB : setB2 ops a0.tmps.size = true)
    (b0 : B) (h0 : W b0 (fun _ => false) { w with drawn := w.drawn + 1 })
    (hstep : ∀ (i : Nat) (o : Oper), ops[i]? = some o → ∀ (b : B) (S : Nat → Bool) (w : World) (a : Act), W b S w → S i = false → (∀ e ∈ o.after, Region.binds .any e = true → S e.on = true) → SlotsIn ops a0 S (v b) a →
      o.wp P a w (fun a' w' => ∃ b', (∀ j, S j = true → v b' j = v b j) ∧ a' = a.put o.dst (v b' i) ∧ W b' (fun j => S j || j == i) w') Q)
    (hend : ∀ (b : B) (w : World) (a : Act) (S : Nat → Bool), (∀ j, j < ops.size → S j = true) → SlotsIn ops a0 S (v b) a → W b S w → Q .normal a w) : (Code.region id ops true).wp P Q a0 w := by
  have hS : (fun j => (Array.replicate ops.size false).getD j false) = fun _ => false := by
    funext j
    rw [Array.getD_eq_getD_getElem?, Array.getElem?_replicate]
    split <;> rfl
  refine wp_region_any hm (wpAny_set2 a0 v W hB hstep hend ops.size _ a0 _ b0 (by simp) ?_ ?_ (by rw [hS]; exact h0))
  · have : (List.range ops.size).filter (fun i => !(Array.replicate ops.size false).getD i false) = List.range ops.size := by
      rw [List.filter_eq_self]
      intro j _
      rw [congrFun hS j]; rfl
    rw [this]; simp
  · rw [hS]
    exact ⟨rfl, rfl, fun j oj d _ _ h => (by cases h), fun d _ => rfl⟩
theorem putAll_slots2 {ops : Array Oper} {a0 : Act} {v : Nat → Value} (hB : setB2 ops a0.tmps.size = true) : ∀ (l : List Oper) (n : Nat) (a : Act), n + l.length = ops.size → (∀ i o, l[i]? = some o → ops[n + i]? = some o) → SlotsIn ops a0 (fun j => decide (j < n)) v a → SlotsIn ops a0 (fun j => decide (j < ops.size)) v (putAll v n l a)
  | [], n, a, hn, _, h => by rw [← hn]; simpa [putAll] using h
  | o :: r, n, a, hn, hl, h => by
    refine putAll_slots2 hB r (n + 1) _ (by rw [← hn]; simp; omega) (fun i o' e => ?_) ?_
    · have := hl (i + 1) o' (by simpa using e)
      rw [show n + 1 + i = n + (i + 1) by omega]; exact this
    · have := h.put2 (v' := v) hB (hl 0 o (by simp)) (fun _ _ => rfl)
      have e : (fun j => decide (j < n + 1)) = fun j => (decide (j < n) || j == n + 0) := by
        funext j
        by_cases h1 : j < n
        · simp [h1]; omega
        · by_cases h2 : j = n
          · simp [h2]
          · have h3 : ¬ j < n + 1 := by omega
            simp [h1, h2, h3]
      rw [e]
      exact this
theorem SlotsIn.all2 {ops : Array Oper} {a0 a : Act} {S : Nat → Bool} {v : Nat → Value} (hB : setB2 ops a0.tmps.size = true) (h : SlotsIn ops a0 S v a) (hall : ∀ j, j < ops.size → S j = true) : a = putAll v 0 ops.toList a0 := by
  refine SlotsIn.uniq (S := fun j => decide (j < ops.size)) (ops := ops) (a0 := a0) (v := v) ?_ (putAll_slots2 hB ops.toList 0 a0 (by simp) (fun i o e => by rw [Nat.zero_add]; rw [Array.getElem?_toList] at e; exact e) ?_)
  · obtain ⟨h1, h2, h3, h4⟩ := h
    refine ⟨h1, h2, fun j oj d hj hd _ => h3 j oj d hj hd (hall j (Array.getElem?_eq_some_iff.1 hj).1), fun d hd => h4 d fun j oj hj hdj => ?_⟩
    have := hd j oj hj hdj
    have hlt := (Array.getElem?_eq_some_iff.1 hj).1
    simp only [decide_eq_false_iff_not] at this
    exact absurd hlt this
  · exact ⟨rfl, rfl, fun j oj d _ _ h => by simp at h, fun d _ => rfl⟩
end Go.Proofs.YtcapbojjceeapaaDoor
namespace Go.Proofs.YtcapbojjceeapaaDoor
open Go.RowKit
set_option linter.unusedVariables false
set_option linter.unusedSimpArgs false
theorem region_setX2 {P : Program} {ops : Array Oper} {Q : Exit → Act → World → Prop} {id : Nat} {w : World} (hm : P.follows .mixedOrders = true) (a0 : Act) {B : Type} (v : B → Nat → Value) (W : B → (Nat → Bool) → World → Prop) (hB : setB2 ops a0.tmps.size = true)
    (b0 : B) (h0 : W b0 (fun _ => false) { w with drawn := w.drawn + 1 })
    (hstep : ∀ (i : Nat) (o : Oper), ops[i]? = some o → ∀ (b : B) (S : Nat → Bool) (w : World) (a : Act), W b S w → S i = false → (∀ e ∈ o.after, Region.binds .any e = true → S e.on = true) → SlotsIn ops a0 S (v b) a → Closed ops S →
      o.wp P a w (fun a' w' => ∃ b', (∀ j, S j = true → v b' j = v b j) ∧ a' = a.put o.dst (v b' i) ∧ W b' (fun j => S j || j == i) w') Q)
    (hend : ∀ (b : B) (w : World) (S : Nat → Bool), (∀ j, j < ops.size → S j = true) → W b S w → Q .normal (putAll (v b) 0 ops.toList a0) w) : (Code.region id ops true).wp P Q a0 w := by
  refine region_setE2 hm a0 v (fun b S w => W b S w ∧ Closed ops S) hB b0 ⟨h0, fun j oj _ h => by cases h⟩ ?_ (fun b w a S h1 h2 h3 => by rw [h2.all2 hB h1]; exact hend b w S h1 h3.1)
  intro i o ho b S w a hW hSi hdep hS
  refine Oper.wp_mono ?_ (hstep i o ho b S w a hW.1 hSi hdep hS hW.2)
  rintro a' w' ⟨b', h1, e0, h3⟩
  refine ⟨b', h1, e0, h3, fun j oj hj hSj e he hb => ?_⟩
  by_cases hji : j = i
  · subst hji
    rw [ho] at hj
    injection hj with hj
    subst hj
    show (S e.on || e.on == j) = true
    rw [hdep e he hb]; rfl
  · have : S j = true := by simpa [hji] using hSj
    show (S e.on || e.on == i) = true
    rw [hW.2 j oj hj this e he hb]; rfl
def Firm (X : Value → World → Prop) : Prop := ∀ u c c', X u c → Below c.heap.size c c' → X u c'
def Step (I : World → Prop) (K : Nat) (X : Nat → Value → World → Prop) (S : Nat → Bool) (v : Nat → Value) (c : World) (a : Act) (o : Oper) (i : Nat) (a' : Act) (w' : World) : Prop :=
  ∃ u, a' = a.put o.dst u ∧ X i u w' ∧ (Below c.heap.size c w' ∨ (i = K ∧ I w' ∧ ∀ j, S j = true → X j (v j) w'))
theorem region_facts {P : Program} {ops : Array Oper} {Q : Exit → Act → World → Prop} {id : Nat} {w : World} (hm : P.follows .mixedOrders = true) (a0 : Act) (w1 : World) (I : World → Prop) (K : Nat) (X : Nat → Value → World → Prop) (hB : setB2 ops a0.tmps.size = true) (hF : ∀ i, Firm (X i)) (hI : ∀ c c', I c → Below c.heap.size c c' → I c')
    (h0 : Below w1.heap.size w1 w) (h1 : I w)
    (hstep : ∀ (i : Nat) (o : Oper), ops[i]? = some o → ∀ (v : Nat → Value) (S : Nat → Bool) (c : World) (a : Act), I c → (S K = false → Below w1.heap.size w1 c) → (∀ j, S j = true → X j (v j) c) → S i = false → (∀ e ∈ o.after, Region.binds .any e = true → S e.on = true) → SlotsIn ops a0 S v a → Closed ops S →
      o.wp P a c (Step I K X S v c a o i) Q)
    (hend : ∀ (v : Nat → Value) (c : World), I c → (∀ j, j < ops.size → X j (v j) c) → Q .normal (putAll v 0 ops.toList a0) c) : (Code.region id ops true).wp P Q a0 w := by
  refine region_setX2 hm a0 (fun v => v) (fun v S c => I c ∧ (S K = false → Below w1.heap.size w1 c) ∧ ∀ j, S j = true → X j (v j) c) hB (fun _ => undef) ⟨hI _ _ h1 (below_drewN _ _ 1), fun _ => below_dn h0 1, fun j h => by cases h⟩ ?_ (fun v c S hall hW => hend v c hW.1 fun j hj => hW.2.2 j (hall j hj))
  intro i o ho v S c a hW hSi hdep hS hC
  refine Oper.wp_mono ?_ (hstep i o ho v S c a hW.1 hW.2.1 hW.2.2 hSi hdep hS hC)
  rintro a' w' ⟨u, e, h2, h3⟩
  refine ⟨fun j => if j = i then u else v j, fun j hj => ?_, by simpa using e, ?_, fun hK => ?_, fun j hj => ?_⟩
  · have : j ≠ i := by rintro rfl; rw [hSi] at hj; cases hj
    simp [this]
  · rcases h3 with h3 | h3
    · exact hI _ _ hW.1 h3
    · exact h3.2.1
  · have hK2 : S K = false ∧ K ≠ i := by simpa using hK
    rcases h3 with h3 | h3
    · exact below_on (hW.2.1 hK2.1) h3
    · exact absurd h3.1.symm hK2.2
  · by_cases hji : j = i
    · subst hji; simpa using h2
    · have hSj : S j = true := by simpa [hji] using hj
      simp only [hji, if_false]
      rcases h3 with h3 | h3
      · exact hF j _ _ _ (hW.2.2 j hSj) h3
      · exact h3.2.2 j hSj
def factL (L : List (Value → World → Prop)) (i : Nat) : Value → World → Prop := L.getD i (fun _ _ => True)
theorem firm_list {L : List (Value → World → Prop)} (h : ∀ X ∈ L, Firm X) (i : Nat) : Firm (factL L i) := by
  unfold factL
  rcases hi : L[i]? with _ | X
  · simp only [List.getD, hi, Option.getD_none]
    exact fun _ _ _ _ _ => trivial
  · simp only [List.getD, hi, Option.getD_some]
    exact h X (List.mem_of_getElem? hi)
theorem firm_eq (x : Value) : Firm (fun u _ => u = x) := fun _ _ _ h _ => h
section
variable {a : Act} {c : World} {o : Oper} {I : World → Prop} {K : Nat} {X : Nat → Value → World → Prop} {S : Nat → Bool} {v : Nat → Value} {i : Nat}
theorem Step.still {x : Value} (h : X i x c) : Step I K X S v c a o i (a.put o.dst x) c := ⟨x, rfl, h, .inl (Below.refl _ _)⟩
theorem Step.new {x : Value} {c' : World} (h : X i x c') (hb : Below c.heap.size c c') : Step I K X S v c a o i (a.put o.dst x) c' := ⟨x, rfl, h, .inl hb⟩
theorem Step.turn {x : Value} {c' : World} (h : X i x c') (hK : i = K) (hI : I c') (hX : ∀ j, S j = true → X j (v j) c') : Step I K X S v c a o i (a.put o.dst x) c' := ⟨x, rfl, h, .inr ⟨hK, hI, hX⟩⟩
end
section
variable {P : Program} {a : Act} {w : World} {K : Act → World → Prop} {Q : Exit → Act → World → Prop} {o : Oper}
theorem o_callV (fo : Operand) (f : FuncId) (args : Array Operand) (tys : Array TypeId) (ho : o.op = .call { callee := .value fo, args := args, argTypes := tys }) {vs : Array Value} (hf : a.eval fo = .func (.func f) #[] #[]) (hx : args.map a.eval = vs) (hr : (callFunc f vs).run P w = .ok (.enter f vs) w)
    {R : Ending → World → Prop} (h : Calls P f vs w R) (hR : ∀ e w', R e w' → ∃ v, e = .returned v ∧ K (a.put o.dst v) w') : o.wp P a w K Q := by
  have h1 : (execOp a.eval o).run P w = .ok (.enter f vs) w := by
    simp [execOp, ho, resolve, invoke, hx, hf, hr, Deferred.ofValue]
  unfold Oper.wp
  rw [h1, Oper.upon_enter]
  refine h.mono ?_
  intro e w' hq
  obtain ⟨v, rfl, hK⟩ := hR e w' hq
  exact hK
theorem o_bld (t : TypeId) (parts : Array (Nat × Operand)) (ho : o.op = .build t parts) {ps : List (Nat × Value)} (hp : (parts.map fun (i, x) => (i, a.eval x)).toList = ps) {vs : List Value} (hb : P.built t ps = some vs.toArray) (hK : K (a.put o.dst (.agg vs.toArray)) w) : o.wp P a w K Q := by
  refine wp_build t parts ho (by rw [hp, hb]; rfl) ?_
  rw [hp, hb]
  exact hK
theorem o_bsl (t e : TypeId) (len : Nat) (parts : Array (Nat × Operand)) (ho : o.op = .buildSlice t len parts) (hu : P.underlying t = some (.slice e)) {ps : List (Nat × Value)} (hp : (parts.map fun (i, x) => (i, a.eval x)).toList = ps) {vs : List Value} (hf : P.builtSlice e len ps = some vs.toArray)
    (hK : ∀ g w', Fresh w w' g → RowV w' g vs → K (a.put o.dst (.slice (some ⟨g, 0, none⟩) len len)) w') : o.wp P a w K Q := by
  unfold Program.builtSlice at hf
  cases hie : P.info? e with
  | none => simp [hie] at hf
  | some ie =>
    simp only [hie] at hf
    cases hz : ie.zero with
    | none => simp [hz] at hf
    | some z =>
      simp only [hz] at hf
      by_cases hc : len * ie.size > 2 ^ 24 ∨ len * ie.size = 0
      · simp [hc] at hf
      · rw [if_neg hc] at hf
        exact wp_buildSlice t e len parts ho vs.toArray ie z hu hie hz (fun h => hc (.inl h)) (fun h => hc (.inr h)) (by rw [hp]; exact hf) (hK _ _ ⟨rfl, _, rfl⟩ (RowV.new (by simp)))
theorem o_bin (b : BinOp) (T T2 : TypeId) (x y : Operand) (ho : o.op = .binOp b T x y T2) {v vx vy : Value} (hx : a.eval x = vx) (hy : a.eval y = vy) (hr : (do eqGuard b T x y vx vy; binOp b T vx vy).run P w = .ok v w) (hK : K (a.put o.dst v) w) : o.wp P a w K Q := by
  unfold Oper.wp execOp
  simp only [ho, hx, hy]
  rw [Sem.run_bind, hr]
  exact hK
theorem o_nil (x : Operand) (ho : o.op = .nilCheck x) {ad : Addr} (hx : a.eval x = .pointer (some ad)) (hK : K (a.put o.dst (.pointer (some ad))) w) : o.wp P a w K Q := by
  unfold Oper.wp execOp
  simp only [ho, hx]
  exact hK
end
theorem wpList_bslV {P : Program} {ops : Array Oper} {rest : List Oper} {o : Oper} {a : Act} {w : World} {Q : Exit → Act → World → Prop} (hgd : o.guard = none) (t e : TypeId) (len : Nat) (parts : Array (Nat × Operand)) (ho : o.op = .buildSlice t len parts) (hu : P.underlying t = some (.slice e)) {ps : List (Nat × Value)} (hp : (parts.map fun (i, x) => (i, a.eval x)).toList = ps) {vs : List Value} (hf : P.builtSlice e len ps = some vs.toArray)
    (hK : ∀ g w', Fresh w w' g → RowV w' g vs → wpList P ops Q rest (a.put o.dst (.slice (some ⟨g, 0, none⟩) len len)) w') : wpList P ops Q (o :: rest) a w :=
  wpList_plain hgd fun _ hK2 => o_bsl t e len parts ho hu hp hf fun g w' h1 h2 => hK2 _ _ (hK g w' h1 h2)
theorem wpList_bslT {P : Program} {ops : Array Oper} {rest : List Oper} {o : Oper} {a : Act} {w : World} {Q : Exit → Act → World → Prop} (hgd : o.guard = none) (t e : TypeId) (len : Nat) (parts : Array (Nat × Operand)) (ho : o.op = .buildSlice t len parts) (hu : P.underlying t = some (.slice e)) {ps : List (Nat × Value)} (hp : (parts.map fun (i, x) => (i, a.eval x)).toList = ps) {vs : List Value} (hf : P.builtSlice e len ps = some vs.toArray)
    (hK : ∀ g w', Fresh w w' g → w'.heap[g]? = some (.cells vs.toArray e (0, 0)) → wpList P ops Q rest (a.put o.dst (.slice (some ⟨g, 0, none⟩) len len)) w') : wpList P ops Q (o :: rest) a w := by
  refine wpList_plain hgd fun K hK2 => ?_
  unfold Program.builtSlice at hf
  cases hie : P.info? e with
  | none => simp [hie] at hf
  | some ie =>
    simp only [hie] at hf
    cases hz : ie.zero with
    | none => simp [hz] at hf
    | some z =>
      simp only [hz] at hf
      by_cases hc : len * ie.size > 2 ^ 24 ∨ len * ie.size = 0
      · simp [hc] at hf
      · rw [if_neg hc] at hf
        exact wp_buildSlice t e len parts ho vs.toArray ie z hu hie hz (fun h => hc (.inl h)) (fun h => hc (.inr h)) (by rw [hp]; exact hf) (hK2 _ _ (hK _ _ ⟨rfl, _, rfl⟩ (heap_alloc_new w _)))
theorem own_lit {w : World} {base g n size : Nat} {e : TypeId} {vs : List Value} (h : w.heap[g]? = some (.cells vs.toArray e (0, 0))) (hl : vs.length = n * size) (hn : n ≤ maxLen) (hb : base ≤ g) : w.ownsRow base e size (.slice (some ⟨g, 0, none⟩) n n) n vs :=
  ⟨hl, .inr ⟨g, n, vs.toArray, rfl, hb, h, Nat.le_refl _, hn, by simpa using hl, by rw [List.take_of_length_le (by simp [hl])]⟩⟩
def StepG (I : World → Prop) (X : Nat → Value → World → Prop) (S : Nat → Bool) (v : Nat → Value) (c : World) (a : Act) (o : Oper) (i : Nat) (a' : Act) (w' : World) : Prop :=
  ∃ u, a' = a.put o.dst u ∧ X i u w' ∧ (Below c.heap.size c w' ∨ (I w' ∧ ∀ j, S j = true → X j (v j) w'))
section
variable {a : Act} {c : World} {o : Oper} {I : World → Prop} {X : Nat → Value → World → Prop} {S : Nat → Bool} {v : Nat → Value} {i : Nat}
theorem StepG.still {x : Value} (h : X i x c) : StepG I X S v c a o i (a.put o.dst x) c := ⟨x, rfl, h, .inl (Below.refl _ _)⟩
theorem StepG.new {x : Value} {c' : World} (h : X i x c') (hb : Below c.heap.size c c') : StepG I X S v c a o i (a.put o.dst x) c' := ⟨x, rfl, h, .inl hb⟩
theorem StepG.turn {x : Value} {c' : World} (h : X i x c') (hI : I c') (hX : ∀ j, S j = true → X j (v j) c') : StepG I X S v c a o i (a.put o.dst x) c' := ⟨x, rfl, h, .inr ⟨hI, hX⟩⟩
end
end Go.Proofs.YtcapbojjceeapaaDoor
