/-
  What is proved here: what the program's object returns, where list and listToMark return what they should one level down, for bytes that lie in memory.
-/
import Derived.Test.YtkdlfbggddllhaaRows
import Derived.Test.YtkdlfbggddllhaaPG0
import Derived.Test.YtkdlfbggddllhaaPG8
import Derived.Test.YtkdlfbggddllhaaPG4
import Derived.Deep.RegionWith
import Derived.Test.YtkdlfbggddllhaaPG7
import Derived.Deep.CutRange
import Derived.Laws.AppendOwnNone
import Derived.Deep.RegionLaw
set_option linter.unusedVariables false
set_option linter.unusedSimpArgs false
namespace Go.Proofs.Ytkdlfbggddllhaa
open Go.RowKit
set_option maxRecDepth 8000
def Fin (w w3 W:World):Prop:=w3.heap.size≤W.heap.size∧(∀k,k < w3.heap.size→k≠w.heap.size→W.heap[k]? = w3.heap[k]?)∧W.os=w3.os∧W.tape=w3.tape∧W.output=w3.output
theorem Fin.set (w w3 : World) (a b c : Value) : Fin w w3 (((w3.setCell ⟨w.heap.size, 0, none⟩ a).setCell ⟨w.heap.size, 1, none⟩ b).setCell ⟨w.heap.size, 2, none⟩ c) := by
 refine ⟨by simp,fun k _ hk=>?_,rfl,rfl,rfl⟩
 rw [Below.heap_setCell _ _ _ k hk,Below.heap_setCell _ _ _ k hk,Below.heap_setCell _ _ _ k hk]
theorem Fin.alloc {w w3 W : World} (h : Fin w w3 W) (o : Obj) : Fin w w3 (W.alloc o) := by
 obtain ⟨h1,h2,h3,h4,h5⟩:=h
 exact ⟨by simp;omega,fun k hk hk2=>(Below.heap_alloc W o k (by omega)).trans (h2 k hk hk2),h3,h4,h5⟩
theorem Fin.drewN {w w3 W:World} (h:Fin w w3 W) (n:Nat):Fin w w3 (W.drewN n):=h
theorem Fin.cell {w w3 W:World} (h:Fin w w3 W) {q:Addr} (h1:q.block < w3.heap.size) (h2:q.block≠w.heap.size):W.cell? q=w3.cell? q:=World.cell?_of_block (h.2.1 _ h1 h2)
theorem Fin.grown {w w3 W : World} {R : Nat} (h : Fin w w3 W) (hg : w.grownBy w3 (some R)) : w.grownBy W (some R) := by
 obtain ⟨h2,h3,h4,h5,h6⟩:=h
 exact ⟨h4.trans hg.os,h5.trans hg.tape,h6.trans hg.output,Nat.le_trans hg.size h2,fun k hk hk2=>(h3 k (Nat.lt_of_lt_of_le hk hg.size) (Nat.ne_of_lt hk)).trans (hg.block k hk hk2)⟩
end Go.Proofs.Ytkdlfbggddllhaa
namespace Go.Proofs.Ytkdlfbggddllhaa
open Go.RowKit
set_option maxRecDepth 8000
def HdOk (st : Bool) (t : Int) (n : Nat) (hd tl : List UInt8) : Prop :=
 (tl=[]∧hd=[UInt8.ofNat n]∧n≤127) ∨
 (tl=[]∧∃m dg,hd=UInt8.ofNat (128+m)::dg∧dg.length=m∧1≤m∧m≤4∧numL_Hdr dg=n∧(st=true→shortB (128+m) n=true)) ∨
 (st=false∧hd=[128]∧tl=[0,0]∧consB t=true)
def LooseOf (st : Bool) : F → List UInt8 → Prop
 | .nil,b=>b=[]
 | .cons t v k r,b=>∃ck br hd tl,LooseOf st k ck∧LooseOf st r br∧HdOk st t (v.length+ck.length) hd tl∧b=tagL t.toNat++(hd++(v++ck++(tl++br)))
theorem LooseOf.app {st : Bool} {g : F} {bg : List UInt8} (hg : LooseOf st g bg) : ∀ {f : F} {bf : List UInt8}, LooseOf st f bf → LooseOf st (f.app g) (bf ++ bg)
 | .nil,_,h=>by cases h;exact hg
 | .cons t v k r,_,⟨ck,br,hd,tl,h1,h2,h3,e⟩=>⟨ck,br++bg,hd,tl,h1,LooseOf.app hg h2,h3,by rw [e];simp only [List.append_assoc]⟩
end Go.Proofs.Ytkdlfbggddllhaa
namespace Go.Proofs.Ytkdlfbggddllhaa
open Go.RowKit
def St2 (w:World) (D:Nat) (l:List UInt8) (v:Value) (wX:World):Prop:=wX.ownsRow w.heap.size 5 1 v l.length (Us l)∧w.grownBy wX (some D)∧DiceOk wX D
theorem own_row {w:World} {base:Nat} {e:TypeId} {s:Nat} {v:Value} {n:Nat} {xs:List Value} (h:w.ownsRow base e s v n xs):∀g,v.ownBlock=some g→base≤g:=fun g e=>(h.lt g e).1
theorem St2.app {w wX w2 : World} {D : Nat} {l xs : List UInt8} {v v2 : Value} {o : Obj} {n : Nat} {news : List Value} (h : St2 w D l v wX) (hDw : D < w.heap.size) (hn : n = xs.length) (he : news = Us xs) (ho : w2.ownsRow w.heap.size 5 1 v2 (l.length + n) (Us l ++ news)) (hg : (wX.alloc o).grownBy w2 v.ownBlock) : St2 w D (l ++ xs) v2 w2 := by
 subst hn he
 refine ⟨by rw [List.length_append,Us_append];exact ho,grown_row (zaC h.2.1 (zaG wX o (some D))) hg (own_row h.1),?_⟩
 exact (h.2.2.below ((Below.refl _ _).alloc (Nat.le_refl _) o)).grown hg fun g e=>by have:=own_row h.1 g e;omega
def Con (wX:World) (v:Value) (A:Option Addr) (c:Nat) (cb:List UInt8):Prop:=SeesP wX (fun b=>b < wX.heap.size∧v.ownBlock≠some b) A (Us cb)∧(A=none→c=0)
theorem Con.grown {wX w2 : World} {D : Nat} {v : Value} {A : Option Addr} {cb : List UInt8} (h : SeesP wX (fun b => b < wX.heap.size ∧ v.ownBlock ≠ some b ∧ b ≠ D) A (Us cb)) (hg : wX.grownBy w2 (some D)) : SeesP w2 (fun b => b < w2.heap.size ∧ v.ownBlock ≠ some b ∧ b ≠ D) A (Us cb) :=
 (h.keep fun q hq=>zaz hg hq.1 hq.2.2).imp fun b hb=>⟨Nat.lt_of_lt_of_le hb.1 hg.size,hb.2⟩
theorem t1 (t:Nat):#[Value.int .u8 ((t:Int) % 256)].toList=Us [UInt8.ofNat t]:=by simp [Us,U]
end Go.Proofs.Ytkdlfbggddllhaa
namespace Go.Proofs.Ytkdlfbggddllhaa
open Go.RowKit
def Blk (w:World) (g cap:Nat) (l:List UInt8):Prop:=∃cur:Array Value,w.heap[g]? = some (.cells cur 5 (0,0))∧cur.size=cap∧l.length≤cap∧cur.toList.take l.length=Us l
theorem Blk.lt {w : World} {g cap : Nat} {l : List UInt8} (h : Blk w g cap l) : g < w.heap.size := by
 obtain ⟨cur,h1,_⟩:=h
 exact lt_of_block h1
theorem Blk.cell {w : World} {g cap : Nat} {l : List UInt8} (h : Blk w g cap l) {k : Nat} (hk : k < l.length) : w.cell? ⟨g, k, none⟩ = some (U l[k]) := by
 obtain ⟨cur,h1,h2,h3,h4⟩:=h
 rw [cell_of_row w g k cur _ (0,0) h1,←Array.getElem?_toList]
 have:=congrArg (·[k]?) h4
 simp only [List.getElem?_take,if_pos hk] at this
 rw [this]
 simp [Us,hk]
theorem Blk.set {w : World} {g cap : Nat} {l : List UInt8} (h : Blk w g cap l) (k : Nat) (x : UInt8) : Blk (w.setCell ⟨g, k, none⟩ (U x)) g cap (l.set k x) := by
 obtain ⟨cur,h1,h2,h3,h4⟩:=h
 refine ⟨_,zaM (i:=k) h1 (U x),by simpa using h2,by simpa using h3,?_⟩
 rw [List.length_set,Array.toList_setIfInBounds,List.take_set,h4]
 simp [Us,List.map_set]
theorem Blk.sees {w w2 : World} {g cap : Nat} {l : List UInt8} (h : Blk w2 g cap l) (hg : w.heap.size ≤ g) : SeesP w2 (newB w w2) (some ⟨g, 0, none⟩) (Us l) := by
 refine .inr ⟨g,0,rfl,⟨hg,h.lt⟩,fun i hi=>?_⟩
 rw [zan] at hi
 rw [Nat.zero_add,h.cell hi]
 simp [Us,hi]
end Go.Proofs.Ytkdlfbggddllhaa
namespace Go.Proofs.Ytkdlfbggddllhaa
open Go.RowKit
set_option maxRecDepth 8000
def octAt (n s i:Nat):UInt8:=UInt8.ofNat (n / 256 ^ (s - 1 - i))
def octL (n s:Nat):List UInt8:=(List.range s).map (octAt n s)
theorem octL_length (n s:Nat):(octL n s).length=s:=by simp [octL]
def octTo (n s k:Nat):List UInt8:=fillP (octAt n s) s (fun i=>decide (s≤i+k))
theorem octTo_all (n s:Nat):octTo n s s=octL n s:=fillP_all fun i _=>by simp
def OctRel (B g : Nat) (n s k : Nat) (w wr : World) : Prop :=
 wr.ownsRow B 5 1 (.slice (some ⟨g,0,none⟩) s s) s (Us (octTo n s k))∧Below B w wr∧B≤g
theorem OctRel.cell {B g n s k j : Nat} {w wr : World} (h : OctRel B g n s k w wr) (hj : j < s) : ∃ u, wr.cell? ⟨g, j, none⟩ = some u := by
 have h1:=h.1.cellAt j (by omega)
 have hl:j < (Us (octTo n s k)).length:=by rw [zan,octTo,fillP_length];exact hj
 rw [List.getElem?_eq_getElem hl] at h1
 exact ⟨_,h1⟩
theorem OctRel.done {B g n s k : Nat} {w wr : World} (h : OctRel B g n s k w wr) (hB : B = w.heap.size) (hk : k = s) :
 Gives w (octL n s) 0 (.returned (.tuple #[.slice (some ⟨g,0,none⟩) s s,.int .i64 0])) wr:=by
 subst hB hk
 refine ⟨_,k,by rw [octL_length],?_,h.2.1⟩
 have h1:=h.1
 rw [octTo_all] at h1
 exact Sees.of_own h1
end Go.Proofs.Ytkdlfbggddllhaa
