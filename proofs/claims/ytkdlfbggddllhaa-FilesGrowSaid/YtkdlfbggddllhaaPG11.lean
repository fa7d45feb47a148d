/-
  What is proved here: what single operations do for any activation, for regions that draw their order and whose end hangs only on which operations have been carried out. Nothing of the program is used.
-/
import Derived.Test.YtkdlfbggddllhaaPG10
import Derived.Test.YtkdlfbggddllhaaPG2
import Derived.Laws.CopyOwn
import Derived.Test.YtkdlfbggddllhaaPG5
set_option linter.unusedVariables false
set_option linter.unusedSimpArgs false
namespace Go.Proofs.Ytkdlfbggddllhaa
open Go.RowKit
def allI (R : Nat → Oper → Prop) : Nat → List Oper → Prop
 | _,[]=>True
 | n,o::r=>R n o∧allI R (n+1) r
theorem allI.nil {R:Nat→Oper→Prop} {n:Nat}:allI R n []:=trivial
theorem allI.cons {R:Nat→Oper→Prop} {n:Nat} {o:Oper} {r:List Oper} (h:R n o) (t:allI R (n+1) r):allI R n (o::r):=⟨h,t⟩
theorem allI.at {R : Nat → Oper → Prop} : ∀ {l : List Oper} {n : Nat}, allI R n l → ∀ (i : Nat) (o : Oper), l[i]? = some o → R (n + i) o
 | [],n,_,i,o,h=>by simp at h
 | x::r,n,h,0,o,e=>by simp at e;subst e;exact h.1
 | x :: r, n, h, i + 1, o, e => by
   have:=allI.at h.2 i o (by simpa using e)
   rw [show n+(i+1)=n+1+i by omega];exact this
theorem ops_all {R : Nat → Oper → Prop} {l : List Oper} (h : allI R 0 l) : ∀ (i : Nat) (o : Oper), l.toArray[i]? = some o → R i o := by
 intro i o e
 have:=allI.at h i o (by simpa using e)
 rwa [Nat.zero_add] at this
section
variable {ops:Array Oper} {a0 a:Act} {S:Nat→Bool} {v:Nat→Value} {o:Oper}
theorem SlotsIn.old (hS : SlotsIn ops a0 S v a) (d : Nat) (h : (ops.toList.all fun o => o.dst != some d) = true) : a.eval (.tmp d) = a0.tmps.getD d undef := by
 refine hS.2.2.2 d fun j oj hj hd=>?_
 rw [List.all_eq_true] at h
 have:=h oj (by rw [←Array.getElem?_toList] at hj;exact List.mem_of_getElem? hj)
 rw [hd] at this
 simp at this
theorem SlotsIn.get (hS:SlotsIn ops a0 S v a) (j:Nat) {oj:Oper} {d:Nat} (h:S j=true) (hj:ops[j]? = some oj) (hd:oj.dst=some d):a.eval (.tmp d)=v j:=hS.2.2.1 j oj d hj hd h
theorem zap (h : ∀ e ∈ o.after, Region.binds .any e = true → S e.on = true) (j : Nat) (hj : (o.after.toList.any fun e => Region.binds .any e && e.on == j) = true) : S j = true := by
 rw [List.any_eq_true] at hj
 obtain ⟨e,he,hb⟩:=hj
 simp only [Bool.and_eq_true,beq_iff_eq] at hb
 rw [←hb.2]
 exact h e (by simpa using he) hb.1
end
def Closed (ops:Array Oper) (S:Nat→Bool):Prop:=∀(j:Nat) (oj:Oper),ops[j]? = some oj→S j=true→∀e∈oj.after,Region.binds .any e=true→S e.on=true
theorem SlotsIn.before {ops : Array Oper} {a0 a : Act} {S : Nat → Bool} {v : Nat → Value} (hS : SlotsIn ops a0 S v a) (hC : Closed ops S) {i : Nat} (hSi : S i = false) (d : Nat) (h : (ops.toList.all fun o => o.dst != some d || o.after.toList.any fun e => Region.binds .any e && e.on == i) = true) : a.eval (.tmp d) = a0.tmps.getD d undef := by
 refine hS.2.2.2 d fun j oj hj hd=>?_
 rw [List.all_eq_true] at h
 have:=h oj (by rw [←Array.getElem?_toList] at hj;exact List.mem_of_getElem? hj)
 rw [hd] at this
 simp only [bne_self_eq_false,Bool.false_or] at this
 rcases hq:S j with _ | _
 · rfl
 · have := zap (hC j oj hj hq) i this
   rw [hSi] at this
   cases this
def zaF (v : Nat → Value) : Nat → List Oper → Act → Act
 | _,[],a=>a
 | n,o::r,a=>zaF v (n+1) r (a.put o.dst (v n))
theorem zaT {ops : Array Oper} {a0 : Act} {v : Nat → Value} (hB : setB ops a0.tmps.size = true) : ∀ (l : List Oper) (n : Nat) (a : Act), n + l.length = ops.size → (∀ i o, l[i]? = some o → ops[n + i]? = some o) → SlotsIn ops a0 (fun j => decide (j < n)) v a → SlotsIn ops a0 (fun j => decide (j < ops.size)) v (zaF v n l a)
 | [],n,a,hn,_,h=>by rw [←hn];simpa [zaF] using h
 | o :: r, n, a, hn, hl, h => by
   refine zaT hB r (n+1) _ (by rw [←hn];simp;omega) (fun i o' e=>?_) ?_
   · have := hl (i + 1) o' (by simpa using e)
     rw [show n+1+i=n+(i+1) by omega];exact this
   · have := h.put (v' := v) hB (hl 0 o (by simp)) (fun _ _ => rfl)
     have e : (fun j => decide (j < n + 1)) = fun j => (decide (j < n) || j == n + 0) := by
      funext j
      by_cases h1:j < n
      · simp [h1];omega
      · by_cases h2 : j = n
        · simp [h2]
        · have h3 : ¬ j < n + 1 := by omega
          simp [h1,h2,h3]
     rw [e]
     exact this
theorem SlotsIn.uniq {ops : Array Oper} {a0 a a' : Act} {S : Nat → Bool} {v : Nat → Value} (h : SlotsIn ops a0 S v a) (h' : SlotsIn ops a0 S v a') : a = a' := by
 obtain ⟨d1,s1,p1,q1⟩:=h
 obtain ⟨d2,s2,p2,q2⟩:=h'
 have key : a.tmps = a'.tmps := by
  apply Array.ext (by rw [s1,s2])
  intro d h1 h2
  have e : a.tmps.getD d undef = a'.tmps.getD d undef := by
   by_cases hx:∃j oj,ops[j]? = some oj∧oj.dst=some d∧S j=true
   · obtain ⟨j, oj, hj, hd, hS⟩ := hx
     rw [p1 j oj d hj hd hS,p2 j oj d hj hd hS]
   · have hn : ∀ j oj, ops[j]? = some oj → oj.dst = some d → S j = false := fun j oj hj hd => by
      rcases hq:S j with _ | _
      · rfl
      · exact absurd ⟨j,oj,hj,hd,hq⟩ hx
     rw [q1 d hn,q2 d hn]
  simpa [Array.getD_eq_getD_getElem?,h1,h2] using e
 obtain ⟨t1,x1⟩:=a
 obtain ⟨t2,x2⟩:=a'
 simp only at key d1 d2
 rw [key,d1,d2]
theorem SlotsIn.all {ops : Array Oper} {a0 a : Act} {S : Nat → Bool} {v : Nat → Value} (hB : setB ops a0.tmps.size = true) (h : SlotsIn ops a0 S v a) (hall : ∀ j, j < ops.size → S j = true) : a = zaF v 0 ops.toList a0 := by
 refine SlotsIn.uniq (S:=fun j=>decide (j < ops.size)) (ops:=ops) (a0:=a0) (v:=v) ?_ (zaT hB ops.toList 0 a0 (by simp) (fun i o e=>by rw [Nat.zero_add];rw [Array.getElem?_toList] at e;exact e) ?_)
 · obtain ⟨h1, h2, h3, h4⟩ := h
   refine ⟨h1,h2,fun j oj d hj hd _=>h3 j oj d hj hd (hall j (Array.getElem?_eq_some_iff.1 hj).1),fun d hd=>h4 d fun j oj hj hdj=>?_⟩
   have:=hd j oj hj hdj
   have hlt:=(Array.getElem?_eq_some_iff.1 hj).1
   simp only [decide_eq_false_iff_not] at this
   exact absurd hlt this
 · exact ⟨rfl,rfl,fun j oj d _ _ h=>by simp at h,fun d _=>rfl⟩
section
variable {P:Program} {a:Act} {w w':World} {K:Act→World→Prop} {Q:Exit→Act→World→Prop} {o:Oper}
theorem o_mv (x : Operand) (ho : o.op = .move x) {v : Value} (hx : a.eval x = v) (hK : K (a.put o.dst v) w) : o.wp P a w K Q := by
 unfold Oper.wp execOp
 simp only [ho,hx,Sem.run_pure]
 exact hK
theorem o_fa (T : TypeId) (x : Operand) (k : Nat) (ho : o.op = .fieldAddr T x k) {p q : Value} (hx : a.eval x = p) (hr : (Instr.fieldAt T p k).run P w = .ok q w) (hK : K (a.put o.dst q) w) : o.wp P a w K Q := by
 unfold Oper.wp execOp
 simp only [ho,hx,Sem.run_bind,hr,Result.andThen_ok,Sem.run_pure]
 exact hK
theorem o_ld (T : TypeId) (x : Operand) (ho : o.op = .load T x) {g k : Nat} {v : Value} (hx : a.eval x = .pointer (some ⟨g, k, none⟩)) (hc : w.cell? ⟨g, k, none⟩ = some v) (ha : ∀ w, (isAgg T).run P w = .ok false w) (hK : K (a.put o.dst v) w) : o.wp P a w K Q := by
 have hr:(loadVar T ⟨g,k,none⟩).run P w=.ok v w:=by simp [loadVar,ha,hc,go_sem]
 unfold Oper.wp execOp
 simp only [ho,hx,Instr.loadAt,Instr.sureAddr,Sem.run_bind,Sem.run_pure,Result.andThen_ok,hr]
 exact hK
theorem o_sl (T : TypeId) (x : Operand) (lo hi mx : Option Operand) (ho : o.op = .slice T x lo hi mx) {v vx : Value} {l h m : Option Value} (hx : a.eval x = vx) (hl : lo.map a.eval = l) (hh : hi.map a.eval = h) (hm : mx.map a.eval = m) (hr : (Instr.sliceAt T vx l h m).run P w = .ok v w) (hK : K (a.put o.dst v) w) : o.wp P a w K Q := by
 unfold Oper.wp execOp
 simp only [ho,hx,hl,hh,hm,Sem.run_bind,hr,Result.andThen_ok,Sem.run_pure]
 exact hK
end
end Go.Proofs.Ytkdlfbggddllhaa
