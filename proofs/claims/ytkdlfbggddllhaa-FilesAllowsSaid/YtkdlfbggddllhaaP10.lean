/-
  What is proved here: a region that draws its order and whose operations make memory: of each operation one fact about what it hands back, which later operations do not turn. Nothing of the program is used.
-/
import Derived.Test.YtkdlfbggddllhaaP7
import Derived.Great.BuildSlice
import Derived.Great.Walk
import Derived.Deep.AppendLies
import Derived.Test.YtkdlfbggddllhaaP9
import Derived.Test.YtkdlfbggddllhaaRows
import Derived.Test.YtkdlfbggddllhaaP0
import Derived.Test.YtkdlfbggddllhaaP4
set_option linter.unusedVariables false
set_option linter.unusedSimpArgs false
namespace Go.Proofs.Ytkdlfbggddllhaa
open Go.RowKit
def Step (I : World → Prop) (K : Nat) (X : Nat → Value → World → Prop) (S : Nat → Bool) (v : Nat → Value) (c : World) (a : Act) (o : Oper) (i : Nat) (a' : Act) (w' : World) : Prop :=
 ∃u,a'=a.put o.dst u∧X i u w'∧(Below c.heap.size c w'∨(i=K∧I w'∧∀j,S j=true→X j (v j) w'))
section
variable {a:Act} {c:World} {o:Oper} {I:World→Prop} {K:Nat} {X:Nat→Value→World→Prop} {S:Nat→Bool} {v:Nat→Value} {i:Nat}
theorem Step.new {x:Value} {c':World} (h:X i x c') (hb:Below c.heap.size c c'):Step I K X S v c a o i (a.put o.dst x) c':=⟨x,rfl,h,.inl hb⟩
end
section
variable {P:Program} {a:Act} {w:World} {K:Act→World→Prop} {Q:Exit→Act→World→Prop} {o:Oper}
theorem o_bld (t : TypeId) (parts : Array (Nat × Operand)) (ho : o.op = .build t parts) {ps : List (Nat × Value)} (hp : (parts.map fun (i, x) => (i, a.eval x)).toList = ps) {vs : List Value} (hb : P.built t ps = some vs.toArray) (hK : K (a.put o.dst (.agg vs.toArray)) w) : o.wp P a w K Q := by
 refine wp_build t parts ho (by rw [hp,hb];rfl) ?_
 rw [hp,hb]
 exact hK
theorem o_bsl (t e : TypeId) (len : Nat) (parts : Array (Nat × Operand)) (ho : o.op = .buildSlice t len parts) (hu : P.underlying t = some (.slice e)) {ps : List (Nat × Value)} (hp : (parts.map fun (i, x) => (i, a.eval x)).toList = ps) {vs : List Value} (hf : P.builtSlice e len ps = some vs.toArray)
 (hK:∀g w',Fresh w w' g→RowV w' g vs→K (a.put o.dst (.slice (some ⟨g,0,none⟩) len len)) w'):o.wp P a w K Q:=by
 unfold Program.builtSlice at hf
 cases hie:P.info? e with
 | none=>simp [hie] at hf
 | some ie =>
   simp only [hie] at hf
   cases hz:ie.zero with
   | none=>simp [hz] at hf
   | some z =>
     simp only [hz] at hf
     by_cases hc:len*ie.size > 2 ^ 24∨len*ie.size=0
     · simp [hc] at hf
     · rw [if_neg hc] at hf
       exact wp_buildSlice t e len parts ho vs.toArray ie z hu hie hz (fun h=>hc (.inl h)) (fun h=>hc (.inr h)) (by rw [hp];exact hf) (hK _ _ ⟨rfl,_,rfl⟩ (RowV.new (by simp)))
theorem o_bin (b : BinOp) (T T2 : TypeId) (x y : Operand) (ho : o.op = .binOp b T x y T2) {v vx vy : Value} (hx : a.eval x = vx) (hy : a.eval y = vy) (hr : (do eqGuard b T x y vx vy; binOp b T vx vy).run P w = .ok v w) (hK : K (a.put o.dst v) w) : o.wp P a w K Q := by
 unfold Oper.wp execOp
 simp only [ho,hx,hy]
 rw [Sem.run_bind,hr]
 exact hK
theorem o_cv (T1 T2 : TypeId) (x : Operand) (ho : o.op = .convert T1 T2 x) {v vx : Value} (hx : a.eval x = vx) (hr : (convert T1 T2 vx).run P w = .ok v w) (hK : K (a.put o.dst v) w) : o.wp P a w K Q := by
 unfold Oper.wp execOp
 simp only [ho,hx,Sem.run_bind,hr,Result.andThen_ok,Sem.run_pure]
 exact hK
end
theorem zbn {P : Program} {ops : Array Oper} {rest : List Oper} {o : Oper} {a : Act} {w : World} {Q : Exit → Act → World → Prop} (hgd : o.guard = none) (t e : TypeId) (len : Nat) (parts : Array (Nat × Operand)) (ho : o.op = .buildSlice t len parts) (hu : P.underlying t = some (.slice e)) {ps : List (Nat × Value)} (hp : (parts.map fun (i, x) => (i, a.eval x)).toList = ps) {vs : List Value} (hf : P.builtSlice e len ps = some vs.toArray)
 (hK:∀g w',Fresh w w' g→RowV w' g vs→wpList P ops Q rest (a.put o.dst (.slice (some ⟨g,0,none⟩) len len)) w'):wpList P ops Q (o::rest) a w :=
 wpList_plain hgd fun _ hK2=>o_bsl t e len parts ho hu hp hf fun g w' h1 h2=>hK2 _ _ (hK g w' h1 h2)
end Go.Proofs.Ytkdlfbggddllhaa
namespace Go.Proofs.Ytkdlfbggddllhaa
open Go.RowKit
theorem zbr {w w':World} (h:w.grownBy w' none):Below w.heap.size w w':=⟨h.os,h.tape,h.output,h.size,fun k hk=>h.block k hk (by intro e;cases e)⟩
theorem own_seesP {w : World} {base : Nat} {e : TypeId} {g n c : Nat} {xs : List Value} (h : w.ownsRow base e 1 (.slice (some ⟨g, 0, none⟩) n c) n xs) : SeesP w (fun b => b = g) (some ⟨g, 0, none⟩) xs := by
 rcases h.2 with ⟨h0,_⟩ | ⟨g',cap,cur,hv,hg,hh,hn,hm,hs,ht⟩
 · simp at h0
 · simp only [Value.slice.injEq, Option.some.injEq, Addr.mk.injEq, and_true, true_and] at hv
   obtain ⟨rfl,rfl⟩:=hv
   refine .inr ⟨g,0,rfl,rfl,fun j hj=>?_⟩
   have hl:=h.1
   rw [Nat.zero_add,cell_of_row w g j cur _ (0,0) hh,←ht,List.getElem?_take,if_pos (by omega),Array.getElem?_toList]
def zerN:List Value:=[.int .i64 0,.slice none 0 0,.slice none 0 0]
end Go.Proofs.Ytkdlfbggddllhaa
namespace Go.Proofs.Ytkdlfbggddllhaa
open Go.RowKit
def NodF (wr:World) (t:Int) (x:List UInt8) (n:Nat) (u:Value) (c:World):Prop:=∃A cv,u=.agg (nodV t A n cv none 0 0).toArray∧((A=none→cv=0)∧n≤cv)∧SeesP c (newB wr c) A (Us x)
def NodS (wr:World) (t:Int) (x:List UInt8) (n:Nat) (u:Value) (c:World):Prop:=∃A cv g,u=.slice (some ⟨g,0,none⟩) 1 1∧newB wr c g∧RowV c g (nodV t A n cv none 0 0)∧((A=none→cv=0)∧n≤cv)∧SeesP c (newB wr c) A (Us x)
theorem NodF.row {wr : World} {t : Int} {x : List UInt8} {n : Nat} {u : Value} {c c' : World} {v : Value} (h : NodF wr t x n u c) (hg : c.grownBy c' v.ownBlock) (hv : ∀ g, v.ownBlock = some g → g < wr.heap.size) : NodF wr t x n u c' := by
 obtain ⟨A,cv,h1,h2,h3⟩:=h
 refine ⟨A,cv,h1,h2,(h3.keep fun q hq=>World.cell?_of_block (hg.block _ hq.2 fun e=>?_)).imp fun b hb=>⟨hb.1,Nat.lt_of_lt_of_le hb.2 hg.size⟩⟩
 have:=hv _ e.symm
 have:=hq.1
 omega
theorem NodS.row {wr : World} {t : Int} {x : List UInt8} {n : Nat} {u : Value} {c c' : World} {v : Value} (h : NodS wr t x n u c) (hg : c.grownBy c' v.ownBlock) (hv : ∀ g, v.ownBlock = some g → g < wr.heap.size) : NodS wr t x n u c' := by
 obtain ⟨A,cv,g,h1,h0,h4,h2,h3⟩:=h
 refine ⟨A,cv,g,h1,⟨h0.1,Nat.lt_of_lt_of_le h0.2 hg.size⟩,h4.same (hg.block _ h0.2 fun e=>?_),h2,(h3.keep fun q hq=>World.cell?_of_block (hg.block _ hq.2 fun e=>?_)).imp fun b hb=>⟨hb.1,Nat.lt_of_lt_of_le hb.2 hg.size⟩⟩
 · have := hv _ e.symm
   have:=h0.1
   omega
 · have := hv _ e.symm
   have:=hq.1
   omega
end Go.Proofs.Ytkdlfbggddllhaa
namespace Go.Proofs.Ytkdlfbggddllhaa
open Go.RowKit
theorem SeesN.put {w w3 w9 w10 : World} {g2 : Nat} {A : Option Addr} {f : F} (h : SeesN w9 (newB w3 w9) A f) (hw : Wr w9 w10 g2) (hg2 : g2 < w3.heap.size) (hww : w.heap.size ≤ w3.heap.size) : SeesN w10 (newB w w10) A f := by
 have hp:∀b,newB w3 w9 b→newB w w10 b∧b≠g2:=fun b hb=>⟨⟨Nat.le_trans hww hb.1,by rw [hw.2.2.2.1];exact hb.2⟩,by have:=hb.1;omega⟩
 exact (h.keep fun q hq=>World.cell?_of_block (hw.2.2.2.2 _ (hp _ hq).2)).imp fun b hb=>(hp b hb).1
theorem RowV.src {w : World} {g : Nat} {vs : List Value} (h : RowV w g vs) : ∀ j u, vs[j]? = some u → w.cell? ((⟨g, 0, none⟩ : Addr).add j) = some u := fun j u hu => by
 have hj:(⟨g,0,none⟩ : Addr).add j=⟨g,j,none⟩:=by unfold Addr.add;split <;> simp_all
 rw [hj,h.cell];exact hu
end Go.Proofs.Ytkdlfbggddllhaa
namespace Go.Proofs.Ytkdlfbggddllhaa
open Go.RowKit
structure Zn where
 fm:Int
 kd:List UInt8
 st:List UInt8
 su:List UInt8
 gi:List UInt8
 nu:List UInt8
 na:List UInt8
 bi:List UInt8
 sx:List UInt8
 ex:List UInt8
 op:List UInt8
 se:List UInt8
deriving DecidableEq
def Zn.zero:Zn:=⟨0,[],[],[],[],[],[],[],[],[],[],[]⟩
end Go.Proofs.Ytkdlfbggddllhaa
namespace Go.Proofs.Ytkdlfbggddllhaa
open Go.RowKit
def BytF (wr:World) (v:List UInt8) (n:Nat) (u:Value) (c:World):Prop:=∃A cv,u=.slice A n cv∧((A=none→cv=0)∧n≤cv)∧SeesP c (newB wr c) A (Us v)
theorem own_newB {w w' : World} {e : TypeId} {v : Value} {n : Nat} {l : List UInt8} (h : w'.ownsRow w.heap.size e 1 v n (Us l)) : ∃ A c, v = .slice A n c ∧ ((A = none → c = 0) ∧ n ≤ c) ∧ SeesP w' (newB w w') A (Us l) := by
 rcases h.2 with ⟨rfl,rfl⟩ | ⟨g,cap,cur,rfl,hb,hh,hn,hm,hs,ht⟩
 · have := h.1
   simp [zap] at this
   subst this
   exact ⟨none,0,rfl,⟨fun _=>rfl,Nat.le_refl _⟩,.inl rfl⟩
 · refine ⟨_, cap, rfl, ⟨fun h => (by cases h), hn⟩, .inr ⟨g, 0, rfl, ⟨hb, lt_of_block hh⟩, fun j hj => ?_⟩⟩
   have hl:=h.1
   rw [Nat.zero_add,cell_of_row w' g j cur _ (0,0) hh,←ht,List.getElem?_take,if_pos (by omega),Array.getElem?_toList]
theorem SeesN.fresh {w c c' : World} {g : Nat} {f : F} {cs : List Value} (hf : Fresh c c' g) (hr : RowV c' g cs) (hs : w.heap.size ≤ c.heap.size) (h : HoldsN c' (newB w c') f cs) : SeesN c' (newB w c') (some ⟨g, 0, none⟩) f :=
 SeesN.block hr (by rw [hf.1];exact hs) h
end Go.Proofs.Ytkdlfbggddllhaa
