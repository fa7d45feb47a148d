/-
  What is proved here: the program's small functions around objects of templates: a copy of bytes, the object of a number, the table of a header's numbers and the places that it names.
-/
import Derived.Test.YtkdlfbggddllhaaPR16
import Derived.Test.YtkdlfbggddllhaaRows
import Derived.Test.YtkdlfbggddllhaaPR0
import Derived.Test.YtkdlfbggddllhaaPR7
set_option linter.unusedVariables false
set_option linter.unusedSimpArgs false
namespace Go.Proofs.Ytkdlfbggddllhaa
open Go.RowKit
theorem grown_new {w w':World} (h:w.grownBy w' none):Below w.heap.size w w':=⟨h.os,h.tape,h.output,h.size,fun k hk=>h.block k hk (by intro e;cases e)⟩
theorem own_seesP {w : World} {base : Nat} {e : TypeId} {g n c : Nat} {xs : List Value} (h : w.ownsRow base e 1 (.slice (some ⟨g, 0, none⟩) n c) n xs) : SeesP w (fun b => b = g) (some ⟨g, 0, none⟩) xs := by
 rcases h.2 with ⟨h0,_⟩ | ⟨g',cap,cur,hv,hg,hh,hn,hm,hs,ht⟩
 · simp at h0
 · simp only [Value.slice.injEq, Option.some.injEq, Addr.mk.injEq, and_true, true_and] at hv
   obtain ⟨rfl,rfl⟩:=hv
   refine .inr ⟨g,0,rfl,rfl,fun j hj=>?_⟩
   have hl:=h.1
   rw [Nat.zero_add,cell_of_row w g j cur _ (0,0) hh,←ht,List.getElem?_take,if_pos (by omega),Array.getElem?_toList]
def zerN:List Value:=[.int .i64 0,.slice none 0 0,.slice none 0 0]
end Go.Proofs.Ytkdlfbggddllhaa
namespace Go.Proofs.Ytkdlfbggddllhaa
open Go.RowKit
def NodF (wr:World) (t:Int) (x:List UInt8) (n:Nat) (u:Value) (c:World):Prop:=∃A cv,u=.agg (nodV t A n cv none 0 0).toArray∧((A=none→cv=0)∧n≤cv)∧SeesP c (newB wr c) A (Us x)
def NodS (wr:World) (t:Int) (x:List UInt8) (n:Nat) (u:Value) (c:World):Prop:=∃A cv g,u=.slice (some ⟨g,0,none⟩) 1 1∧newB wr c g∧RowV c g (nodV t A n cv none 0 0)∧((A=none→cv=0)∧n≤cv)∧SeesP c (newB wr c) A (Us x)
theorem NodF.row {wr : World} {t : Int} {x : List UInt8} {n : Nat} {u : Value} {c c' : World} {v : Value} (h : NodF wr t x n u c) (hg : c.grownBy c' v.ownBlock) (hv : ∀ g, v.ownBlock = some g → g < wr.heap.size) : NodF wr t x n u c' := by
 obtain ⟨A,cv,h1,h2,h3⟩:=h
 refine ⟨A,cv,h1,h2,(h3.keep fun q hq=>World.cell?_of_block (hg.block _ hq.2 fun e=>?_)).imp fun b hb=>⟨hb.1,Nat.lt_of_lt_of_le hb.2 hg.size⟩⟩
 have:=hv _ e.symm
 have:=hq.1
 omega
theorem NodS.row {wr : World} {t : Int} {x : List UInt8} {n : Nat} {u : Value} {c c' : World} {v : Value} (h : NodS wr t x n u c) (hg : c.grownBy c' v.ownBlock) (hv : ∀ g, v.ownBlock = some g → g < wr.heap.size) : NodS wr t x n u c' := by
 obtain ⟨A,cv,g,h1,h0,h4,h2,h3⟩:=h
 refine ⟨A,cv,g,h1,⟨h0.1,Nat.lt_of_lt_of_le h0.2 hg.size⟩,h4.same (hg.block _ h0.2 fun e=>?_),h2,(h3.keep fun q hq=>World.cell?_of_block (hg.block _ hq.2 fun e=>?_)).imp fun b hb=>⟨hb.1,Nat.lt_of_lt_of_le hb.2 hg.size⟩⟩
 · have := hv _ e.symm
   have:=h0.1
   omega
 · have := hv _ e.symm
   have:=hq.1
   omega
end Go.Proofs.Ytkdlfbggddllhaa
namespace Go.Proofs.Ytkdlfbggddllhaa
open Go.RowKit
theorem SeesN.put {w w3 w9 w10 : World} {g2 : Nat} {A : Option Addr} {f : F} (h : SeesN w9 (newB w3 w9) A f) (hw : Wr w9 w10 g2) (hg2 : g2 < w3.heap.size) (hww : w.heap.size ≤ w3.heap.size) : SeesN w10 (newB w w10) A f := by
 have hp:∀b,newB w3 w9 b→newB w w10 b∧b≠g2:=fun b hb=>⟨⟨Nat.le_trans hww hb.1,by rw [hw.2.2.2.1];exact hb.2⟩,by have:=hb.1;omega⟩
 exact (h.keep fun q hq=>World.cell?_of_block (hw.2.2.2.2 _ (hp _ hq).2)).imp fun b hb=>(hp b hb).1
theorem RowV.src {w : World} {g : Nat} {vs : List Value} (h : RowV w g vs) : ∀ j u, vs[j]? = some u → w.cell? ((⟨g, 0, none⟩ : Addr).add j) = some u := fun j u hu => by
 have hj:(⟨g,0,none⟩ : Addr).add j=⟨g,j,none⟩:=by unfold Addr.add;split <;> simp_all
 rw [hj,h.cell];exact hu
end Go.Proofs.Ytkdlfbggddllhaa
namespace Go.Proofs.Ytkdlfbggddllhaa
open Go.RowKit
structure Zn where
 fm:Int
 kd:List UInt8
 st:List UInt8
 su:List UInt8
 gi:List UInt8
 nu:List UInt8
 na:List UInt8
 bi:List UInt8
 sx:List UInt8
 ex:List UInt8
 op:List UInt8
 se:List UInt8
deriving DecidableEq
def Zn.zero:Zn:=⟨0,[],[],[],[],[],[],[],[],[],[],[]⟩
end Go.Proofs.Ytkdlfbggddllhaa
namespace Go.Proofs.Ytkdlfbggddllhaa
open Go.RowKit
def BytF (wr:World) (v:List UInt8) (n:Nat) (u:Value) (c:World):Prop:=∃A cv,u=.slice A n cv∧((A=none→cv=0)∧n≤cv)∧SeesP c (newB wr c) A (Us v)
theorem SeesN.fresh {w c c' : World} {g : Nat} {f : F} {cs : List Value} (hf : Fresh c c' g) (hr : RowV c' g cs) (hs : w.heap.size ≤ c.heap.size) (h : HoldsN c' (newB w c') f cs) : SeesN c' (newB w c') (some ⟨g, 0, none⟩) f :=
 SeesN.block hr (by rw [hf.1];exact hs) h
end Go.Proofs.Ytkdlfbggddllhaa
