/-
  What is proved here: words for the blocks of a call's own (each known whole), what reading and writing them does, and that the listed tables stay where they lie. Nothing of the program's functions is used.
-/
import Derived.Test.YtkdlfbggddllhaaPG2
import Derived.Test.YtkdlfbggddllhaaPG13
import Derived.Test.YtkdlfbggddllhaaRows
import Derived.Test.YtkdlfbggddllhaaPG0
import Derived.Test.YtkdlfbggddllhaaPG5
import Derived.Test.YtkdlfbggddllhaaPG6
import Derived.Maps.RangeWalk
import Derived.Deep.DeepMust
set_option linter.unusedVariables false
set_option linter.unusedSimpArgs false
namespace Go.Proofs.Ytkdlfbggddllhaa
open Go.RowKit
def Own (w cur : World) (L : List (Nat × List Value)) : Prop :=
 Below w.heap.size w cur∧(∀(i g:Nat) (vs:List Value),L[i]? = some (g,vs)→w.heap.size≤g∧RowV cur g vs)∧∀(i j g g':Nat) (vs vs':List Value),L[i]? = some (g,vs)→L[j]? = some (g',vs')→i≠j→g≠g'
section
variable {w cur cur':World} {L:List (Nat×List Value)} {i g:Nat} {vs us:List Value}
theorem Own.start (w:World):Own w w []:=⟨Below.refl _ _,fun i g vs h=>by simp at h,fun i j g g' vs vs' h=>by simp at h⟩
theorem Own.bl (h:Own w cur L):Below w.heap.size w cur:=h.1
theorem Own.row (h:Own w cur L) (e:L[i]? = some (g,vs)):RowV cur g vs:=(h.2.1 i g vs e).2
theorem Own.ge (h:Own w cur L) (e:L[i]? = some (g,vs)):w.heap.size≤g:=(h.2.1 i g vs e).1
theorem Own.on (h : Own w cur L) (hb : Below cur.heap.size cur cur') : Own w cur' L :=
 ⟨zad h.1 hb,fun i g vs e=>⟨h.ge e,(h.row e).on hb⟩,h.2.2⟩
theorem Own.new (h : Own w cur L) (hf : Fresh cur cur' g) (hr : RowV cur' g vs) : Own w cur' (L ++ [(g, vs)]) := by
 have hlt:∀(i g':Nat) (vs':List Value),L[i]? = some (g',vs')→g'≠g:=fun i g' vs' e=>(h.row e).ne hf
 refine ⟨hf.bl h.1,fun i g' vs' e=>?_,fun i j g1 g2 v1 v2 e1 e2 hne=>?_⟩
 · rw [List.getElem?_append] at e
   split at e
   · exact ⟨h.ge e,(h.row e).fresh hf⟩
   · have e' : g' = g ∧ vs' = vs := by
      rcases hk:i - L.length with _ | k
      · rw [hk] at e;simp at e;exact ⟨e.1.symm,e.2.symm⟩
      · rw [hk] at e;simp at e
     obtain ⟨rfl,rfl⟩:=e'
     exact ⟨hf.ge h.1,hr⟩
 · rw [List.getElem?_append] at e1 e2
   have key : ∀ (k : Nat) (x : Nat) (y : List Value), [(g, vs)][k]? = some (x, y) → k = 0 ∧ x = g := by
    intro k x y e
    rcases k with _ | k
    · simp at e;exact ⟨rfl,e.1.symm⟩
    · simp at e
   split at e1 <;> split at e2
   · exact h.2.2 i j g1 g2 v1 v2 e1 e2 hne
   · obtain ⟨_,rfl⟩:=key _ _ _ e2;exact hlt i g1 v1 e1
   · obtain ⟨_,rfl⟩:=key _ _ _ e1;exact (hlt j g2 v2 e2).symm
   · have:=(key _ _ _ e1).1;have:=(key _ _ _ e2).1;omega
theorem Own.set (h : Own w cur L) (e : L[i]? = some (g, vs)) (hw : Wr cur cur' g) (hr : RowV cur' g us) : Own w cur' (L.set i (g, us)) := by
 have hlt:i < L.length:=(List.getElem?_eq_some_iff.1 e).1
 have key : ∀ (j x : Nat) (y : List Value), (L.set i (g, us))[j]? = some (x, y) → (j = i ∧ x = g ∧ y = us) ∨ (j ≠ i ∧ L[j]? = some (x, y)) := by
  intro j x y hj
  by_cases hji:j=i
  · subst hji
    rw [List.getElem?_set_self hlt] at hj
    injection hj with hj
    injection hj with h1 h2
    exact .inl ⟨rfl,h1.symm,h2.symm⟩
  · rw [List.getElem?_set_ne (Ne.symm hji)] at hj
    exact .inr ⟨hji,hj⟩
 refine ⟨Wr.bl h.1 hw (h.ge e),fun j g' vs' hj=>?_,fun j k g1 g2 v1 v2 e1 e2 hne=>?_⟩
 · rcases key j g' vs' hj with ⟨rfl, rfl, rfl⟩ | ⟨hne, hj⟩
   · exact ⟨h.ge e,hr⟩
   · exact ⟨h.ge hj,(h.row hj).wr hw (h.2.2 j i g' g vs' vs hj e hne)⟩
 · rcases key j g1 v1 e1 with ⟨rfl, rfl, rfl⟩ | ⟨hn1, f1⟩ <;> rcases key k g2 v2 e2 with ⟨rfl, rfl, rfl⟩ | ⟨hn2, f2⟩
   · exact absurd rfl hne
   · exact h.2.2 _ _ _ _ _ _ e f2 hne
   · exact h.2.2 _ _ _ _ _ _ f1 e hne
   · exact h.2.2 _ _ _ _ _ _ f1 f2 hne
end
theorem zag {P:Program} {ops:Array Oper} {rest:List Oper} {a:Act} {w:World} {Q:Exit→Act→World→Prop} {d:Nat} {x:Operand} {ty t:TypeId} {ps:String} {af:Array Edge} {gd:Option (Nat×Bool)} (h:wpList P ops Q (⟨some d,.box ty x,t,ps,af,gd⟩::rest) a w):wpList P ops Q (⟨some d,.box ty x,t,ps,af,gd⟩::rest) a w:=h
theorem zaW {P : Program} {ops : Array Oper} {C : World → Prop} {Q : Act → Prop} {a : Act} {o : Oper} {rest : List Oper} (hw : Region.wanted o (yielded ops a.tmps) = true) (ty : TypeId) (x : Operand) (ho : o.op = .load ty x) (g : Nat) (hx : a.eval x = .pointer (some ⟨g, 0, none⟩)) (vs : List Value) (d : TypeDesc)
 (h:∀w,C w→RowV w g vs) (hu:P.underlying ty=some d) (hd:d.isRow=true) (hi:(P.info? ty).map (·.size)=some vs.length) (hK:wpQuiet P ops C Q rest (a.put o.dst (.agg vs.toArray))):wpQuiet P ops C Q (o::rest) a:=by
 refine Go.BigFrame.wpQuiet_want hw fun K hKK=>?_
 refine ⟨_,fun w hc=>?_,hKK _ hK⟩
 have hr:=run_loadVar_mid (P:=P) w g 0 ty vs d (h w hc).whole hu hd hi
 unfold Oper.quietAt execOp
 simp only [ho,hx,Instr.loadAt,Instr.sureAddr,Sem.run_bind,Sem.run_pure,Result.andThen_ok,hr]
 exact ⟨rfl,rfl⟩
theorem at_qload_ {P : Program} {ops : Array Oper} {C : World → Prop} {Q : Act → Prop} {a : Act} {d : Nat} {rest : List Oper} {x : Operand} {ty t : TypeId} {ps : String} {af : Array Edge} {gd : Option (Nat × Bool)}
 (h:wpQuiet P ops C Q (⟨some d,.load ty x,t,ps,af,gd⟩::rest) a):wpQuiet P ops C Q (⟨some d,.load ty x,t,ps,af,gd⟩::rest) a:=h
theorem RowV.up {w:World} {g:Nat} {vs:List Value} (h:RowV w g vs):∀w',(∃p:Regrown,w'=Go.Sort.grow (redrawn w p.d) p.os)→RowV w' g vs:=fun w' hw=>h.on (zav hw)
end Go.Proofs.Ytkdlfbggddllhaa
namespace Go.Proofs.Ytkdlfbggddllhaa
open Go.RowKit
theorem zal {P:Program} {ops:Array Oper} {rest:List Oper} {a:Act} {w:World} {Q:Exit→Act→World→Prop} {d:Nat} {op:Op} {t:TypeId} {ps:String} {af:Array Edge} {gd:Option (Nat×Bool)} (h:wpList P ops Q (⟨some d,op,t,ps,af,gd⟩::rest) a w):wpList P ops Q (⟨some d,op,t,ps,af,gd⟩::rest) a w:=h
theorem at_call_ {P:Program} {ops:Array Oper} {rest:List Oper} {a:Act} {w:World} {Q:Exit→Act→World→Prop} {d:Nat} {x:Call} {t:TypeId} {ps:String} {af:Array Edge} {gd:Option (Nat×Bool)} (h:wpList P ops Q (⟨some d,.call x,t,ps,af,gd⟩::rest) a w):wpList P ops Q (⟨some d,.call x,t,ps,af,gd⟩::rest) a w:=h
theorem cs_one (x : Tm) (A : Option Addr) (c : Nat) : ∀ u ∈ x.cs A c, u.oneCell' = true := by
 intro u hu
 simp only [Tm.cs,List.mem_cons,List.not_mem_nil,or_false] at hu
 rcases hu with rfl | rfl | rfl | rfl | rfl | rfl | rfl <;> rfl
end Go.Proofs.Ytkdlfbggddllhaa
