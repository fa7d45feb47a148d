/-
  What is proved here: plain words for calls that hand back bytes, and what is kept over a call; nothing of the program is used.
-/
import Derived.Test.YtkdlfbggddllhaaPG9
import Derived.Test.YtkdlfbggddllhaaPG1
import Derived.Test.YtkdlfbggddllhaaPG0
import Derived.Laws.AppendOwnNone
import Derived.Deep.AppendLies
import Derived.Test.YtkdlfbggddllhaaRows
import Derived.Orders
import Derived.Tactics
set_option linter.unusedVariables false
set_option linter.unusedSimpArgs false
namespace Go.Proofs.Ytkdlfbggddllhaa
open Go.RowKit
theorem SeesP.ony {w w':World} {A:Option Addr} {cs:List Value} (h:SeesP w (· < w.heap.size) A cs) (hb:Below w.heap.size w w'):SeesP w' (· < w'.heap.size) A cs:=SeesP.iff_sees.2 ((SeesP.iff_sees.1 h).on hb)
theorem below_al (w:World) (o:Obj):Below w.heap.size w (w.alloc o):=(Below.refl _ w).alloc (Nat.le_refl _) o
def MkN (w:World) (n:Nat) (l:List UInt8) (e:Ending) (w':World):Prop:=∃A c,e=.returned (.slice A n c)∧n≤c∧(A=none→c=0)∧SeesP w' (· < w'.heap.size) A (Us l)∧Below w.heap.size w w'
theorem MkN.al {W w' : World} {o : Obj} {n : Nat} {l : List UInt8} {e : Ending} (h : MkN (W.alloc o) n l e w') : MkN W n l e w' := by
 obtain ⟨A,c,he,h1,h2,h3,h4⟩:=h
 exact ⟨A,c,he,h1,h2,h3,zad (below_al W o) h4⟩
theorem SeesP.first {w : World} {p : Nat → Prop} {A : Option Addr} {l : List UInt8} (h : SeesP w p A (Us l)) (k : Nat) : SeesP w p A (Us (l.take k)) := by
 rcases h with h | ⟨b,off,e,hb,hc⟩
 · have := congrArg List.length h; rw [zan] at this; have : l = [] := List.eq_nil_of_length_eq_zero (by simpa using this)
   subst this;exact .inl (by simp [Us])
 · refine .inr ⟨b, off, e, hb, fun j hj => ?_⟩
   rw [zan,List.length_take] at hj
   rw [hc j (by rw [zan];omega),Us_take,List.getElem?_take,if_pos (by omega)]
def InB (w:World) (A:Option Addr) (a c:Nat) (x:List UInt8):Prop:=x.length=a∧a≤140737488351300∧(A=none→c=0)∧SeesP w (· < w.heap.size) A (Us x)
theorem InB.on {w w':World} {A:Option Addr} {a c:Nat} {x:List UInt8} (h:InB w A a c x) (hb:Below w.heap.size w w'):InB w' A a c x:=⟨h.1,h.2.1,h.2.2.1,h.2.2.2.ony hb⟩
end Go.Proofs.Ytkdlfbggddllhaa
namespace Go.Proofs.Ytkdlfbggddllhaa
open Go.RowKit
def setB (ops : Array Oper) (n : Nat) : Bool :=
 (List.range ops.size).all fun i => match ops[i]? with
  | none=>true
  | some o => o.guard.isNone && o.after.all (fun e => decide (e.on < i)) && (match o.dst with
    | none=>true
    | some d => decide (d < n) && (List.range ops.size).all fun j => decide (j = i) || match ops[j]? with
      | none=>true
      | some oj=>decide (oj.dst≠some d))
def SlotsIn (ops : Array Oper) (a0 : Act) (S : Nat → Bool) (v : Nat → Value) (a : Act) : Prop :=
 a.defers = a0.defers ∧ a.tmps.size = a0.tmps.size ∧ (∀ (j : Nat) (oj : Oper) (d : Nat), ops[j]? = some oj → oj.dst = some d → S j = true → a.tmps.getD d undef = v j) ∧
  ∀d,(∀(j:Nat) (oj:Oper),ops[j]? = some oj→oj.dst=some d→S j=false)→a.tmps.getD d undef=a0.tmps.getD d undef
theorem setB_at {ops : Array Oper} {n i : Nat} {o : Oper} (h : setB ops n = true) (hi : ops[i]? = some o) :
 o.guard=none∧(∀e∈o.after,e.on < i)∧∀d,o.dst=some d→d < n∧∀(j:Nat) (oj:Oper),ops[j]? = some oj→oj.dst=some d→j=i:=by
 unfold setB at h
 rw [List.all_eq_true] at h
 have hlt:i < ops.size:=(Array.getElem?_eq_some_iff.1 hi).1
 have h1:=h i (List.mem_range.2 hlt)
 rw [hi] at h1
 simp only [Bool.and_eq_true] at h1
 obtain ⟨⟨h2,h3⟩,h4⟩:=h1
 refine ⟨by simpa using h2,fun e he=>?_,fun d hd=>?_⟩
 · rw [Array.all_eq_true'] at h3
   simpa using h3 e he
 · rw [hd] at h4
   simp only [Bool.and_eq_true,decide_eq_true_eq,List.all_eq_true] at h4
   refine ⟨h4.1,fun j oj hj hdj=>?_⟩
   have h5:=h4.2 j (List.mem_range.2 (Array.getElem?_eq_some_iff.1 hj).1)
   rw [hj] at h5
   simp only [Bool.or_eq_true,decide_eq_true_eq] at h5
   rcases h5 with h5 | h5
   · exact h5
   · exact absurd hdj h5
theorem SlotsIn.put {ops : Array Oper} {a0 a : Act} {S : Nat → Bool} {v v' : Nat → Value} {i : Nat} {o : Oper} (h : SlotsIn ops a0 S v a) (hB : setB ops a0.tmps.size = true) (hi : ops[i]? = some o) (hv : ∀ j, S j = true → v' j = v j) :
 SlotsIn ops a0 (fun j=>S j || j==i) v' (a.put o.dst (v' i)):=by
 obtain ⟨h1,h2,h3,h4⟩:=h
 obtain ⟨_,_,hd⟩:=setB_at hB hi
 rcases ho:o.dst with _ | d
 · refine ⟨h1, h2, fun j oj d hj hdj hS => ?_, fun d hd' => ?_⟩
   · have hne : j ≠ i := by rintro rfl; rw [hi] at hj; injection hj with hj; rw [← hj, ho] at hdj; cases hdj
     have hS':S j=true:=by simpa [hne] using hS
     rw [hv j hS']
     exact h3 j oj d hj hdj hS'
   · exact h4 d fun j oj hj hdj=>by have:=hd' j oj hj hdj;simp only [Bool.or_eq_false_iff] at this;exact this.1
 · obtain ⟨hlt, huniq⟩ := hd d ho
   have key : ∀ d', (a.put (some d) (v' i)).tmps.getD d' undef = if d' = d then v' i else a.tmps.getD d' undef := by
    intro d'
    show (a.tmps.setIfInBounds d (v' i)).getD d' undef=_
    by_cases e:d'=d
    · subst e
      simp [Array.getD_eq_getD_getElem?,h2,hlt]
    · rw [if_neg e]
      simp [Array.getD_eq_getD_getElem?,Ne.symm e]
   refine ⟨h1,by show (a.tmps.setIfInBounds d (v' i)).size=_;simpa using h2,fun j oj d' hj hdj hS=>?_,fun d' hd'=>?_⟩
   · rw [key]
     by_cases e:d'=d
     · subst e
       rw [if_pos rfl,huniq j oj hj hdj]
     · rw [if_neg e]
       have hne:j≠i:=by rintro rfl;rw [hi] at hj;injection hj with hj;rw [←hj,ho] at hdj;exact e (Option.some.inj hdj).symm
       have hS':S j=true:=by simpa [hne] using hS
       rw [hv j hS']
       exact h3 j oj d' hj hdj hS'
   · rw [key]
     have e : d' ≠ d := by
      rintro rfl
      have:=hd' i o hi ho
      simp at this
     rw [if_neg e]
     exact h4 d' fun j oj hj hdj=>by have:=hd' j oj hj hdj;simp only [Bool.or_eq_false_iff] at this;exact this.1
end Go.Proofs.Ytkdlfbggddllhaa
