/-
  What is proved here: a region that draws its order, whatever its operations do, if what they leave behind hangs only on which of them have been carried out: any order leads to the same end. Nothing of the program is used.
-/
import Derived.Test.YtkdlfbggddllhaaRows
import Derived.Test.YtkdlfbggddllhaaP0
import Derived.Orders
import Derived.Tactics
import Derived.Test.YtkdlfbggddllhaaP1
import Derived.Laws.CopyOwn
import Derived.Test.YtkdlfbggddllhaaP4
set_option linter.unusedVariables false
set_option linter.unusedSimpArgs false
namespace Go.Proofs.Ytkdlfbggddllhaa
open Go.RowKit
def setB (ops : Array Oper) (n : Nat) : Bool :=
 (List.range ops.size).all fun i => match ops[i]? with
  | none=>true
  | some o => o.guard.isNone && o.after.all (fun e => decide (e.on < i)) && (match o.dst with
    | none=>true
    | some d => decide (d < n) && (List.range ops.size).all fun j => decide (j = i) || match ops[j]? with
      | none=>true
      | some oj=>decide (oj.dst≠some d))
def SlotsIn (ops : Array Oper) (a0 : Act) (S : Nat → Bool) (v : Nat → Value) (a : Act) : Prop :=
 a.defers = a0.defers ∧ a.tmps.size = a0.tmps.size ∧ (∀ (j : Nat) (oj : Oper) (d : Nat), ops[j]? = some oj → oj.dst = some d → S j = true → a.tmps.getD d undef = v j) ∧
  ∀d,(∀(j:Nat) (oj:Oper),ops[j]? = some oj→oj.dst=some d→S j=false)→a.tmps.getD d undef=a0.tmps.getD d undef
theorem setB_at {ops : Array Oper} {n i : Nat} {o : Oper} (h : setB ops n = true) (hi : ops[i]? = some o) :
 o.guard=none∧(∀e∈o.after,e.on < i)∧∀d,o.dst=some d→d < n∧∀(j:Nat) (oj:Oper),ops[j]? = some oj→oj.dst=some d→j=i:=by
 unfold setB at h
 rw [List.all_eq_true] at h
 have hlt:i < ops.size:=(Array.getElem?_eq_some_iff.1 hi).1
 have h1:=h i (List.mem_range.2 hlt)
 rw [hi] at h1
 simp only [Bool.and_eq_true] at h1
 obtain ⟨⟨h2,h3⟩,h4⟩:=h1
 refine ⟨by simpa using h2,fun e he=>?_,fun d hd=>?_⟩
 · rw [Array.all_eq_true'] at h3
   simpa using h3 e he
 · rw [hd] at h4
   simp only [Bool.and_eq_true,decide_eq_true_eq,List.all_eq_true] at h4
   refine ⟨h4.1,fun j oj hj hdj=>?_⟩
   have h5:=h4.2 j (List.mem_range.2 (Array.getElem?_eq_some_iff.1 hj).1)
   rw [hj] at h5
   simp only [Bool.or_eq_true,decide_eq_true_eq] at h5
   rcases h5 with h5 | h5
   · exact h5
   · exact absurd hdj h5
theorem SlotsIn.put {ops : Array Oper} {a0 a : Act} {S : Nat → Bool} {v v' : Nat → Value} {i : Nat} {o : Oper} (h : SlotsIn ops a0 S v a) (hB : setB ops a0.tmps.size = true) (hi : ops[i]? = some o) (hv : ∀ j, S j = true → v' j = v j) :
 SlotsIn ops a0 (fun j=>S j || j==i) v' (a.put o.dst (v' i)):=by
 obtain ⟨h1,h2,h3,h4⟩:=h
 obtain ⟨_,_,hd⟩:=setB_at hB hi
 rcases ho:o.dst with _ | d
 · refine ⟨h1, h2, fun j oj d hj hdj hS => ?_, fun d hd' => ?_⟩
   · have hne : j ≠ i := by rintro rfl; rw [hi] at hj; injection hj with hj; rw [← hj, ho] at hdj; cases hdj
     have hS':S j=true:=by simpa [hne] using hS
     rw [hv j hS']
     exact h3 j oj d hj hdj hS'
   · exact h4 d fun j oj hj hdj=>by have:=hd' j oj hj hdj;simp only [Bool.or_eq_false_iff] at this;exact this.1
 · obtain ⟨hlt, huniq⟩ := hd d ho
   have key : ∀ d', (a.put (some d) (v' i)).tmps.getD d' undef = if d' = d then v' i else a.tmps.getD d' undef := by
    intro d'
    show (a.tmps.setIfInBounds d (v' i)).getD d' undef=_
    by_cases e:d'=d
    · subst e
      simp [Array.getD_eq_getD_getElem?,h2,hlt]
    · rw [if_neg e]
      simp [Array.getD_eq_getD_getElem?,Ne.symm e]
   refine ⟨h1,by show (a.tmps.setIfInBounds d (v' i)).size=_;simpa using h2,fun j oj d' hj hdj hS=>?_,fun d' hd'=>?_⟩
   · rw [key]
     by_cases e:d'=d
     · subst e
       rw [if_pos rfl,huniq j oj hj hdj]
     · rw [if_neg e]
       have hne:j≠i:=by rintro rfl;rw [hi] at hj;injection hj with hj;rw [←hj,ho] at hdj;exact e (Option.some.inj hdj).symm
       have hS':S j=true:=by simpa [hne] using hS
       rw [hv j hS']
       exact h3 j oj d' hj hdj hS'
   · rw [key]
     have e : d' ≠ d := by
      rintro rfl
      have:=hd' i o hi ho
      simp at this
     rw [if_neg e]
     exact h4 d' fun j oj hj hdj=>by have:=hd' j oj hj hdj;simp only [Bool.or_eq_false_iff] at this;exact this.1
end Go.Proofs.Ytkdlfbggddllhaa
namespace Go.Proofs.Ytkdlfbggddllhaa
open Go.RowKit
def allI (R : Nat → Oper → Prop) : Nat → List Oper → Prop
 | _,[]=>True
 | n,o::r=>R n o∧allI R (n+1) r
theorem allI.nil {R:Nat→Oper→Prop} {n:Nat}:allI R n []:=trivial
theorem allI.cons {R:Nat→Oper→Prop} {n:Nat} {o:Oper} {r:List Oper} (h:R n o) (t:allI R (n+1) r):allI R n (o::r):=⟨h,t⟩
theorem allI.at {R : Nat → Oper → Prop} : ∀ {l : List Oper} {n : Nat}, allI R n l → ∀ (i : Nat) (o : Oper), l[i]? = some o → R (n + i) o
 | [],n,_,i,o,h=>by simp at h
 | x::r,n,h,0,o,e=>by simp at e;subst e;exact h.1
 | x :: r, n, h, i + 1, o, e => by
   have:=allI.at h.2 i o (by simpa using e)
   rw [show n+(i+1)=n+1+i by omega];exact this
section
variable {ops:Array Oper} {a0 a:Act} {S:Nat→Bool} {v:Nat→Value} {o:Oper}
theorem dep_at (h : ∀ e ∈ o.after, Region.binds .any e = true → S e.on = true) (j : Nat) (hj : (o.after.toList.any fun e => Region.binds .any e && e.on == j) = true) : S j = true := by
 rw [List.any_eq_true] at hj
 obtain ⟨e,he,hb⟩:=hj
 simp only [Bool.and_eq_true,beq_iff_eq] at hb
 rw [←hb.2]
 exact h e (by simpa using he) hb.1
end
def Closed (ops:Array Oper) (S:Nat→Bool):Prop:=∀(j:Nat) (oj:Oper),ops[j]? = some oj→S j=true→∀e∈oj.after,Region.binds .any e=true→S e.on=true
theorem SlotsIn.before {ops : Array Oper} {a0 a : Act} {S : Nat → Bool} {v : Nat → Value} (hS : SlotsIn ops a0 S v a) (hC : Closed ops S) {i : Nat} (hSi : S i = false) (d : Nat) (h : (ops.toList.all fun o => o.dst != some d || o.after.toList.any fun e => Region.binds .any e && e.on == i) = true) : a.eval (.tmp d) = a0.tmps.getD d undef := by
 refine hS.2.2.2 d fun j oj hj hd=>?_
 rw [List.all_eq_true] at h
 have:=h oj (by rw [←Array.getElem?_toList] at hj;exact List.mem_of_getElem? hj)
 rw [hd] at this
 simp only [bne_self_eq_false,Bool.false_or] at this
 rcases hq:S j with _ | _
 · rfl
 · have := dep_at (hC j oj hj hq) i this
   rw [hSi] at this
   cases this
def putAll (v : Nat → Value) : Nat → List Oper → Act → Act
 | _,[],a=>a
 | n,o::r,a=>putAll v (n+1) r (a.put o.dst (v n))
theorem zbf {ops : Array Oper} {a0 : Act} {v : Nat → Value} (hB : setB ops a0.tmps.size = true) : ∀ (l : List Oper) (n : Nat) (a : Act), n + l.length = ops.size → (∀ i o, l[i]? = some o → ops[n + i]? = some o) → SlotsIn ops a0 (fun j => decide (j < n)) v a → SlotsIn ops a0 (fun j => decide (j < ops.size)) v (putAll v n l a)
 | [],n,a,hn,_,h=>by rw [←hn];simpa [putAll] using h
 | o :: r, n, a, hn, hl, h => by
   refine zbf hB r (n+1) _ (by rw [←hn];simp;omega) (fun i o' e=>?_) ?_
   · have := hl (i + 1) o' (by simpa using e)
     rw [show n+1+i=n+(i+1) by omega];exact this
   · have := h.put (v' := v) hB (hl 0 o (by simp)) (fun _ _ => rfl)
     have e : (fun j => decide (j < n + 1)) = fun j => (decide (j < n) || j == n + 0) := by
      funext j
      by_cases h1:j < n
      · simp [h1];omega
      · by_cases h2 : j = n
        · simp [h2]
        · have h3 : ¬ j < n + 1 := by omega
          simp [h1,h2,h3]
     rw [e]
     exact this
theorem SlotsIn.uniq {ops : Array Oper} {a0 a a' : Act} {S : Nat → Bool} {v : Nat → Value} (h : SlotsIn ops a0 S v a) (h' : SlotsIn ops a0 S v a') : a = a' := by
 obtain ⟨d1,s1,p1,q1⟩:=h
 obtain ⟨d2,s2,p2,q2⟩:=h'
 have key : a.tmps = a'.tmps := by
  apply Array.ext (by rw [s1,s2])
  intro d h1 h2
  have e : a.tmps.getD d undef = a'.tmps.getD d undef := by
   by_cases hx:∃j oj,ops[j]? = some oj∧oj.dst=some d∧S j=true
   · obtain ⟨j, oj, hj, hd, hS⟩ := hx
     rw [p1 j oj d hj hd hS,p2 j oj d hj hd hS]
   · have hn : ∀ j oj, ops[j]? = some oj → oj.dst = some d → S j = false := fun j oj hj hd => by
      rcases hq:S j with _ | _
      · rfl
      · exact absurd ⟨j,oj,hj,hd,hq⟩ hx
     rw [q1 d hn,q2 d hn]
  simpa [Array.getD_eq_getD_getElem?,h1,h2] using e
 obtain ⟨t1,x1⟩:=a
 obtain ⟨t2,x2⟩:=a'
 simp only at key d1 d2
 rw [key,d1,d2]
theorem SlotsIn.all {ops : Array Oper} {a0 a : Act} {S : Nat → Bool} {v : Nat → Value} (hB : setB ops a0.tmps.size = true) (h : SlotsIn ops a0 S v a) (hall : ∀ j, j < ops.size → S j = true) : a = putAll v 0 ops.toList a0 := by
 refine SlotsIn.uniq (S:=fun j=>decide (j < ops.size)) (ops:=ops) (a0:=a0) (v:=v) ?_ (zbf hB ops.toList 0 a0 (by simp) (fun i o e=>by rw [Nat.zero_add];rw [Array.getElem?_toList] at e;exact e) ?_)
 · obtain ⟨h1, h2, h3, h4⟩ := h
   refine ⟨h1,h2,fun j oj d hj hd _=>h3 j oj d hj hd (hall j (Array.getElem?_eq_some_iff.1 hj).1),fun d hd=>h4 d fun j oj hj hdj=>?_⟩
   have:=hd j oj hj hdj
   have hlt:=(Array.getElem?_eq_some_iff.1 hj).1
   simp only [decide_eq_false_iff_not] at this
   exact absurd hlt this
 · exact ⟨rfl,rfl,fun j oj d _ _ h=>by simp at h,fun d _=>rfl⟩
section
variable {P:Program} {a:Act} {w w':World} {K:Act→World→Prop} {Q:Exit→Act→World→Prop} {o:Oper}
theorem o_sl (T : TypeId) (x : Operand) (lo hi mx : Option Operand) (ho : o.op = .slice T x lo hi mx) {v vx : Value} {l h m : Option Value} (hx : a.eval x = vx) (hl : lo.map a.eval = l) (hh : hi.map a.eval = h) (hm : mx.map a.eval = m) (hr : (Instr.sliceAt T vx l h m).run P w = .ok v w) (hK : K (a.put o.dst v) w) : o.wp P a w K Q := by
 unfold Oper.wp execOp
 simp only [ho,hx,hl,hh,hm,Sem.run_bind,hr,Result.andThen_ok,Sem.run_pure]
 exact hK
end
end Go.Proofs.Ytkdlfbggddllhaa
