/-
  What is proved here: the program's small functions around objects of templates: a copy of bytes, the object of a number, the table of a header's numbers and the places that it names.
-/
import Derived.Test.YtkdlfbggddllhaaPG15
import Derived.Test.YtkdlfbggddllhaaRows
import Derived.Test.YtkdlfbggddllhaaPG0
import Derived.Test.YtkdlfbggddllhaaPG5
import Derived.Test.YtkdlfbggddllhaaPG14
set_option linter.unusedVariables false
set_option linter.unusedSimpArgs false
namespace Go.Proofs.Ytkdlfbggddllhaa
open Go.RowKit
theorem grown_new {w w':World} (h:w.grownBy w' none):Below w.heap.size w w':=⟨h.os,h.tape,h.output,h.size,fun k hk=>h.block k hk (by intro e;cases e)⟩
theorem own_seesP {w : World} {base : Nat} {e : TypeId} {g n c : Nat} {xs : List Value} (h : w.ownsRow base e 1 (.slice (some ⟨g, 0, none⟩) n c) n xs) : SeesP w (fun b => b = g) (some ⟨g, 0, none⟩) xs := by
 rcases h.2 with ⟨h0,_⟩ | ⟨g',cap,cur,hv,hg,hh,hn,hm,hs,ht⟩
 · simp at h0
 · simp only [Value.slice.injEq, Option.some.injEq, Addr.mk.injEq, and_true, true_and] at hv
   obtain ⟨rfl,rfl⟩:=hv
   refine .inr ⟨g,0,rfl,rfl,fun j hj=>?_⟩
   have hl:=h.1
   rw [Nat.zero_add,cell_of_row w g j cur _ (0,0) hh,←ht,List.getElem?_take,if_pos (by omega),Array.getElem?_toList]
def zerN:List Value:=[.int .i64 0,.slice none 0 0,.slice none 0 0]
end Go.Proofs.Ytkdlfbggddllhaa
namespace Go.Proofs.Ytkdlfbggddllhaa
open Go.RowKit
theorem ag_i:∀w,(isAgg 3).run Try.prog w=.ok false w:=fun w=>by kernel_rfl
theorem ev2 {a:Act} {x y:Operand} {u v:Value} (h:a.eval x=u) (h2:a.eval y=v):(#[x,y]:Array Operand).map a.eval=#[u,v]:=by simp [h,h2]
def NodF (wr:World) (t:Int) (x:List UInt8) (n:Nat) (u:Value) (c:World):Prop:=∃A cv,u=.agg (nodV t A n cv none 0 0).toArray∧((A=none→cv=0)∧n≤cv)∧SeesP c (newB wr c) A (Us x)
def NodS (wr:World) (t:Int) (x:List UInt8) (n:Nat) (u:Value) (c:World):Prop:=∃A cv g,u=.slice (some ⟨g,0,none⟩) 1 1∧newB wr c g∧RowV c g (nodV t A n cv none 0 0)∧((A=none→cv=0)∧n≤cv)∧SeesP c (newB wr c) A (Us x)
theorem NodF.row {wr : World} {t : Int} {x : List UInt8} {n : Nat} {u : Value} {c c' : World} {v : Value} (h : NodF wr t x n u c) (hg : c.grownBy c' v.ownBlock) (hv : ∀ g, v.ownBlock = some g → g < wr.heap.size) : NodF wr t x n u c' := by
 obtain ⟨A,cv,h1,h2,h3⟩:=h
 refine ⟨A,cv,h1,h2,(h3.keep fun q hq=>World.cell?_of_block (hg.block _ hq.2 fun e=>?_)).imp fun b hb=>⟨hb.1,Nat.lt_of_lt_of_le hb.2 hg.size⟩⟩
 have:=hv _ e.symm
 have:=hq.1
 omega
theorem NodS.row {wr : World} {t : Int} {x : List UInt8} {n : Nat} {u : Value} {c c' : World} {v : Value} (h : NodS wr t x n u c) (hg : c.grownBy c' v.ownBlock) (hv : ∀ g, v.ownBlock = some g → g < wr.heap.size) : NodS wr t x n u c' := by
 obtain ⟨A,cv,g,h1,h0,h4,h2,h3⟩:=h
 refine ⟨A,cv,g,h1,⟨h0.1,Nat.lt_of_lt_of_le h0.2 hg.size⟩,h4.same (hg.block _ h0.2 fun e=>?_),h2,(h3.keep fun q hq=>World.cell?_of_block (hg.block _ hq.2 fun e=>?_)).imp fun b hb=>⟨hb.1,Nat.lt_of_lt_of_le hb.2 hg.size⟩⟩
 · have := hv _ e.symm
   have:=h0.1
   omega
 · have := hv _ e.symm
   have:=hq.1
   omega
end Go.Proofs.Ytkdlfbggddllhaa
namespace Go.Proofs.Ytkdlfbggddllhaa
open Go.RowKit
theorem SeesN.put {w w3 w9 w10 : World} {g2 : Nat} {A : Option Addr} {f : F} (h : SeesN w9 (newB w3 w9) A f) (hw : Wr w9 w10 g2) (hg2 : g2 < w3.heap.size) (hww : w.heap.size ≤ w3.heap.size) : SeesN w10 (newB w w10) A f := by
 have hp:∀b,newB w3 w9 b→newB w w10 b∧b≠g2:=fun b hb=>⟨⟨Nat.le_trans hww hb.1,by rw [hw.2.2.2.1];exact hb.2⟩,by have:=hb.1;omega⟩
 exact (h.keep fun q hq=>World.cell?_of_block (hw.2.2.2.2 _ (hp _ hq).2)).imp fun b hb=>(hp b hb).1
end Go.Proofs.Ytkdlfbggddllhaa
namespace Go.Proofs.Ytkdlfbggddllhaa
open Go.RowKit
structure Zn where
 fm:Int
 kd:List UInt8
 st:List UInt8
 su:List UInt8
 gi:List UInt8
 nu:List UInt8
 na:List UInt8
 bi:List UInt8
 sx:List UInt8
 ex:List UInt8
 op:List UInt8
 se:List UInt8
deriving DecidableEq
def Zn.zero:Zn:=⟨0,[],[],[],[],[],[],[],[],[],[],[]⟩
end Go.Proofs.Ytkdlfbggddllhaa
namespace Go.Proofs.Ytkdlfbggddllhaa
open Go.RowKit
theorem size_i:(Try.prog.info? 3).map (·.size)=some 1:=by kernel_rfl
end Go.Proofs.Ytkdlfbggddllhaa
namespace Go.Proofs.Ytkdlfbggddllhaa
open Go.RowKit
def BytF (wr:World) (v:List UInt8) (n:Nat) (u:Value) (c:World):Prop:=∃A cv,u=.slice A n cv∧((A=none→cv=0)∧n≤cv)∧SeesP c (newB wr c) A (Us v)
theorem SeesN.fresh {w c c' : World} {g : Nat} {f : F} {cs : List Value} (hf : Fresh c c' g) (hr : RowV c' g cs) (hs : w.heap.size ≤ c.heap.size) (h : HoldsN c' (newB w c') f cs) : SeesN c' (newB w c') (some ⟨g, 0, none⟩) f :=
 SeesN.block hr (by rw [hf.1];exact hs) h
end Go.Proofs.Ytkdlfbggddllhaa
namespace Go.Proofs.Ytkdlfbggddllhaa
open Go.RowKit
def OlW (w1:World) (n1:List Value) (b:Nat) (S:Nat→Bool) (c:World):Prop:=Below w1.heap.size w1 c∧(S 11=true→w1.heap.size≤b∧RowV c b (if S 12=true then n1 else zerN))
theorem OlW.keep {w1 c : World} {n1 : List Value} {b i : Nat} {S : Nat → Bool} (h : OlW w1 n1 b S c) (h1 : 11 ≠ i) (h2 : 12 ≠ i) : OlW w1 n1 b (fun j => S j || j == i) c := by
 obtain ⟨g1,g2⟩:=h
 refine ⟨g1,fun hS=>?_⟩
 have e1:(S 11 || 11==i)=S 11:=by simp [h1]
 have e2:(S 12 || 12==i)=S 12:=by simp [h2]
 show _∧RowV c b (if (S 12 || 12==i)=true then n1 else zerN)
 rw [e2]
 exact g2 (by rw [←e1];exact hS)
def RowT (w c:World) (gT m:Nat) (vs:List Value) (L:List Tm):Prop:=RowV c gT vs∧vs.length=m*7∧w.heap.size≤gT∧∀k x,L[k]? = some x→TmIn c (fun b=>newB w c b∧b≠gT) vs k x
theorem RowT.on {w c c' : World} {gT m : Nat} {vs : List Value} {L : List Tm} (h : RowT w c gT m vs L) (hb : Below c.heap.size c c') : RowT w c' gT m vs L :=
 ⟨h.1.on hb,h.2.1,h.2.2.1,fun k x hx=>((h.2.2.2 k x hx).keep fun q hq=>hb.cell hq.1.2).imp fun b hq=>⟨⟨hq.1.1,Nat.lt_of_lt_of_le hq.1.2 hb.size⟩,hq.2⟩⟩
def spl (vs:List Value) (o:Nat) (us:List Value):List Value:=vs.take o++us++vs.drop (o+us.length)
theorem spl_len {vs us : List Value} {o : Nat} (h : o + us.length ≤ vs.length) : (spl vs o us).length = vs.length := by
 simp [spl];omega
theorem RowT.put {w c c' : World} {gT m j : Nat} {vs : List Value} {L : List Tm} {x : Tm} {A : Option Addr} {cd : Nat} (h : RowT w c gT m vs L) (hL : L.length = j) (hj : j < m) (hw : Wr c c' gT) (hr : RowV c' gT (spl vs (j * 7) (x.cs A cd)))
 (h0:(A=none→cd=0)∧x.d.length≤cd) (hd:SeesP c (fun b=>newB w c b∧b≠gT) A (Us x.d)):RowT w c' gT m (spl vs (j*7) (x.cs A cd)) (L++[x]):=by
 obtain ⟨h1,h2,h3,h4⟩:=h
 have hlen:j*7+(x.cs A cd).length≤vs.length:=by rw [h2];simp [Tm.cs];omega
 have kp:∀q:Addr,(newB w c q.block∧q.block≠gT)→c'.cell? q=c.cell? q:=fun q hq=>World.cell?_of_block (hw.2.2.2.2 _ hq.2)
 have ip:∀b,(newB w c b∧b≠gT)→newB w c' b∧b≠gT:=fun b hb=>⟨⟨hb.1.1,by rw [hw.2.2.2.1];exact hb.1.2⟩,hb.2⟩
 have el:(x.cs A cd).length=7:=rfl
 refine ⟨hr,by rw [spl_len hlen,h2],h3,fun k y hy=>?_⟩
 rw [List.getElem?_append] at hy
 split at hy
 · rename_i hk
   obtain ⟨A',c1,g0,g1,g2⟩:=h4 k y hy
   refine ⟨A',c1,g0,(g1.keep kp).imp ip,fun i hi=>?_⟩
   rw [←g2 i hi]
   unfold spl
   rw [List.append_assoc,List.getElem?_append,if_pos (by rw [List.length_take];omega),List.getElem?_take,if_pos (by omega)]
 · rename_i hk
   have hk0 : k - L.length = 0 := by
    have:=(List.getElem?_eq_some_iff.1 hy).1
    simpa using this
   rw [hk0] at hy
   injection hy with hy
   subst hy
   refine ⟨A,cd,h0,(hd.keep kp).imp ip,fun i hi=>?_⟩
   have ek:k=j:=by omega
   subst ek
   unfold spl
   rw [List.append_assoc,List.getElem?_append,if_neg (by rw [List.length_take];omega),List.getElem?_append,if_pos (by rw [List.length_take,el];omega)]
   congr 1
   rw [List.length_take];omega
theorem RowT.sees {w c : World} {gT m : Nat} {vs : List Value} {L : List Tm} (h : RowT w c gT m vs L) (hL : L.length = m) : SeesT c (newB w c) (some ⟨gT, 0, none⟩) L := by
 obtain ⟨h1,h2,h3,h4⟩:=h
 exact ⟨vs,.inr ⟨gT,0,rfl,⟨h3,h1.lt⟩,fun j hj=>by rw [Nat.zero_add,h1.cell]⟩,by rw [h2,hL];omega,fun k x hx=>(h4 k x hx).imp fun b hb=>hb.1⟩
end Go.Proofs.Ytkdlfbggddllhaa
