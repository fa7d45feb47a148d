/-
  What is proved here: plain words for templates: what a valid one is, its object, what objects are those of templates; and how templates lie in memory. Nothing of the program's functions is used.
-/
import Derived.Test.YtkdlfbggddllhaaPR6
import Derived.Test.YtkdlfbggddllhaaPR1
import Derived.Test.YtkdlfbggddllhaaPR14
import Derived.Test.YtkdlfbggddllhaaPR4
import Derived.Test.YtkdlfbggddllhaaRows
import Derived.Test.YtkdlfbggddllhaaPR0
import Derived.Test.YtkdlfbggddllhaaPR7
import Derived.Test.YtkdlfbggddllhaaPR2
import Derived.Test.YtkdlfbggddllhaaPR13
import Derived.Maps.RangeWalk
set_option linter.unusedVariables false
set_option linter.unusedSimpArgs false
namespace Go.Proofs.Ytkdlfbggddllhaa
open Go.RowKit
structure Tm where
 k:Int
 p:Int
 f:Int
 t:Int
 fo:Int
 q:Int
 d:List UInt8
instance:Inhabited Tm:=⟨⟨0,0,0,0,0,0,[]⟩⟩
def Tm.cs (x:Tm) (A:Option Addr) (c:Nat):List Value:=[.int .i64 x.k,.int .i64 x.p,.int .i64 x.f,.int .i64 x.t,.int .i64 x.fo,.int .i64 x.q,.slice A x.d.length c]
theorem Tm.cs_len (x:Tm) (A:Option Addr) (c:Nat):(x.cs A c).length=7:=rfl
def TmIn (w : World) (p : Nat → Prop) (vs : List Value) (k : Nat) (x : Tm) : Prop :=
 ∃A c,((A=none→c=0)∧x.d.length≤c)∧SeesP w p A (Us x.d)∧∀j,j < 7→vs[k*7+j]? = (x.cs A c)[j]?
def TmsIn (w:World) (p:Nat→Prop) (vs:List Value) (l:List Tm):Prop:=vs.length=7*l.length∧∀(k:Nat) (x:Tm),l[k]? = some x→TmIn w p vs k x
def SeesT (w:World) (p:Nat→Prop) (A:Option Addr) (l:List Tm):Prop:=∃vs,SeesP w p A vs∧TmsIn w p vs l
section
variable {w w':World} {p p':Nat→Prop} {A:Option Addr} {vs:List Value} {l:List Tm} {k:Nat} {x:Tm}
theorem TmIn.keep (h : TmIn w p vs k x) (hk : ∀ q : Addr, p q.block → w'.cell? q = w.cell? q) : TmIn w' p vs k x := by
 obtain ⟨A,c,h0,h1,h2⟩:=h
 exact ⟨A,c,h0,h1.keep hk,h2⟩
theorem TmIn.imp (h : TmIn w p vs k x) (hp : ∀ b, p b → p' b) : TmIn w p' vs k x := by
 obtain ⟨A,c,h0,h1,h2⟩:=h
 exact ⟨A,c,h0,h1.imp hp,h2⟩
theorem TmsIn.keep (h:TmsIn w p vs l) (hk:∀q:Addr,p q.block→w'.cell? q=w.cell? q):TmsIn w' p vs l:=⟨h.1,fun k x hx=>(h.2 k x hx).keep hk⟩
theorem TmsIn.imp (h:TmsIn w p vs l) (hp:∀b,p b→p' b):TmsIn w p' vs l:=⟨h.1,fun k x hx=>(h.2 k x hx).imp hp⟩
theorem SeesT.keep (h : SeesT w p A l) (hk : ∀ q : Addr, p q.block → w'.cell? q = w.cell? q) : SeesT w' p A l := by
 obtain ⟨cs,h1,h2⟩:=h
 exact ⟨cs,h1.keep hk,h2.keep hk⟩
theorem SeesT.imp (h : SeesT w p A l) (hp : ∀ b, p b → p' b) : SeesT w p' A l := by
 obtain ⟨cs,h1,h2⟩:=h
 exact ⟨cs,h1.imp hp,h2.imp hp⟩
theorem SeesT.on (h : SeesT w (· < w.heap.size) A l) (hb : Below w.heap.size w w') : SeesT w' (· < w'.heap.size) A l :=
 (h.keep fun _ hq=>hb.cell hq).imp fun _ hb2=>Nat.lt_of_lt_of_le hb2 hb.size
theorem SeesT.nil_:SeesT w p A []:=⟨[],.inl rfl,rfl,fun k x h=>by simp at h⟩
theorem TmsIn.nil_:TmsIn w p [] []:=⟨rfl,fun k x h=>by simp at h⟩
end
end Go.Proofs.Ytkdlfbggddllhaa
namespace Go.Proofs.Ytkdlfbggddllhaa
open Go.RowKit
theorem zat (w:World) (o:Obj):Below w.heap.size w (w.alloc o):=(Below.refl _ _).alloc (Nat.le_refl _) o
end Go.Proofs.Ytkdlfbggddllhaa
namespace Go.Proofs.Ytkdlfbggddllhaa
open Go.RowKit
def cB (x:List UInt8) (i:Nat):Int:=((x.getD i 0).toNat:Int)
end Go.Proofs.Ytkdlfbggddllhaa
namespace Go.Proofs.Ytkdlfbggddllhaa
open Go.RowKit
def Own (w cur : World) (L : List (Nat × List Value)) : Prop :=
 Below w.heap.size w cur∧(∀(i g:Nat) (vs:List Value),L[i]? = some (g,vs)→w.heap.size≤g∧RowV cur g vs)∧∀(i j g g':Nat) (vs vs':List Value),L[i]? = some (g,vs)→L[j]? = some (g',vs')→i≠j→g≠g'
section
variable {w cur cur':World} {L:List (Nat×List Value)} {i g:Nat} {vs us:List Value}
theorem Own.start (w:World):Own w w []:=⟨Below.refl _ _,fun i g vs h=>by simp at h,fun i j g g' vs vs' h=>by simp at h⟩
theorem Own.bl (h:Own w cur L):Below w.heap.size w cur:=h.1
theorem Own.row (h:Own w cur L) (e:L[i]? = some (g,vs)):RowV cur g vs:=(h.2.1 i g vs e).2
theorem Own.ge (h:Own w cur L) (e:L[i]? = some (g,vs)):w.heap.size≤g:=(h.2.1 i g vs e).1
theorem Own.on (h : Own w cur L) (hb : Below cur.heap.size cur cur') : Own w cur' L :=
 ⟨zac h.1 hb,fun i g vs e=>⟨h.ge e,(h.row e).on hb⟩,h.2.2⟩
theorem Own.new (h : Own w cur L) (hf : Fresh cur cur' g) (hr : RowV cur' g vs) : Own w cur' (L ++ [(g, vs)]) := by
 have hlt:∀(i g':Nat) (vs':List Value),L[i]? = some (g',vs')→g'≠g:=fun i g' vs' e=>(h.row e).ne hf
 refine ⟨hf.bl h.1,fun i g' vs' e=>?_,fun i j g1 g2 v1 v2 e1 e2 hne=>?_⟩
 · rw [List.getElem?_append] at e
   split at e
   · exact ⟨h.ge e,(h.row e).fresh hf⟩
   · have e' : g' = g ∧ vs' = vs := by
      rcases hk:i - L.length with _ | k
      · rw [hk] at e;simp at e;exact ⟨e.1.symm,e.2.symm⟩
      · rw [hk] at e;simp at e
     obtain ⟨rfl,rfl⟩:=e'
     exact ⟨hf.ge h.1,hr⟩
 · rw [List.getElem?_append] at e1 e2
   have key : ∀ (k : Nat) (x : Nat) (y : List Value), [(g, vs)][k]? = some (x, y) → k = 0 ∧ x = g := by
    intro k x y e
    rcases k with _ | k
    · simp at e;exact ⟨rfl,e.1.symm⟩
    · simp at e
   split at e1 <;> split at e2
   · exact h.2.2 i j g1 g2 v1 v2 e1 e2 hne
   · obtain ⟨_,rfl⟩:=key _ _ _ e2;exact hlt i g1 v1 e1
   · obtain ⟨_,rfl⟩:=key _ _ _ e1;exact (hlt j g2 v2 e2).symm
   · have:=(key _ _ _ e1).1;have:=(key _ _ _ e2).1;omega
end
theorem zah {P:Program} {ops:Array Oper} {rest:List Oper} {a:Act} {w:World} {Q:Exit→Act→World→Prop} {d:Nat} {x:Operand} {ty t:TypeId} {ps:String} {af:Array Edge} {gd:Option (Nat×Bool)} (h:wpList P ops Q (⟨some d,.box ty x,t,ps,af,gd⟩::rest) a w):wpList P ops Q (⟨some d,.box ty x,t,ps,af,gd⟩::rest) a w:=h
theorem zaM {P : Program} {ops : Array Oper} {C : World → Prop} {Q : Act → Prop} {a : Act} {o : Oper} {rest : List Oper} (hw : Region.wanted o (yielded ops a.tmps) = true) (ty : TypeId) (x : Operand) (ho : o.op = .load ty x) (g : Nat) (hx : a.eval x = .pointer (some ⟨g, 0, none⟩)) (vs : List Value) (d : TypeDesc)
 (h:∀w,C w→RowV w g vs) (hu:P.underlying ty=some d) (hd:d.isRow=true) (hi:(P.info? ty).map (·.size)=some vs.length) (hK:wpQuiet P ops C Q rest (a.put o.dst (.agg vs.toArray))):wpQuiet P ops C Q (o::rest) a:=by
 refine Go.BigFrame.wpQuiet_want hw fun K hKK=>?_
 refine ⟨_,fun w hc=>?_,hKK _ hK⟩
 have hr:=run_loadVar_mid (P:=P) w g 0 ty vs d (h w hc).whole hu hd hi
 unfold Oper.quietAt execOp
 simp only [ho,hx,Instr.loadAt,Instr.sureAddr,Sem.run_bind,Sem.run_pure,Result.andThen_ok,hr]
 exact ⟨rfl,rfl⟩
theorem at_qload_ {P : Program} {ops : Array Oper} {C : World → Prop} {Q : Act → Prop} {a : Act} {d : Nat} {rest : List Oper} {x : Operand} {ty t : TypeId} {ps : String} {af : Array Edge} {gd : Option (Nat × Bool)}
 (h:wpQuiet P ops C Q (⟨some d,.load ty x,t,ps,af,gd⟩::rest) a):wpQuiet P ops C Q (⟨some d,.load ty x,t,ps,af,gd⟩::rest) a:=h
theorem RowV.up {w:World} {g:Nat} {vs:List Value} (h:RowV w g vs):∀w',(∃p:Regrown,w'=Go.Sort.grow (redrawn w p.d) p.os)→RowV w' g vs:=fun w' hw=>h.on (zar hw)
end Go.Proofs.Ytkdlfbggddllhaa
