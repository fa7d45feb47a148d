/-
  What is proved here: plain words for byte slices that lie in memory (what a slice reads as, that it is kept while other blocks are made and written), with no condition; nothing of the program is used.
-/
import Derived.WalkKit
import Derived.Deep.QuietTactic
import Derived.BigQuiet
import Derived.Lib.Hide
import Derived.Deep.RegionLaw
import Derived.Deep.AppendLies
import Derived.Laws.CopyOwn
import Derived.Laws.CopyRow
import Derived.Laws.Tables
import Derived.Laws.ResultCell
import Derived.Laws.Rows
import Derived.Deep.MidRow
import Derived.StillTailTactics
import Derived.Laws.AppendOwnNone
import Derived.Test.YtnlhbknajdpnbaaGreatDoorRows
set_option linter.unusedVariables false
set_option linter.unusedSimpArgs false
namespace Go.Proofs.YtnlhbknajdpnbaaGreatDoor
open Go.RowKit
set_option maxRecDepth 8000
def U (c:UInt8):Value:=.int .u8 (c.toNat:Int)
def Us (l:List UInt8):List Value:=l.map U
theorem zat (l:List UInt8):(Us l).length=l.length:=by simp [Us]
theorem zeT {l : List UInt8} {k : Nat} (h : k < l.length) : (Us l)[k]? = some (.int .u8 (l[k].toNat : Int)) := by
 simp [Us,U,h]
theorem zaP (a b:List UInt8):Us (a++b)=Us a++Us b:=by simp [Us]
theorem Us_take (a:List UInt8) (k:Nat):Us (a.take k)=(Us a).take k:=by simp [Us,List.map_take]
theorem Us_drop (a:List UInt8) (k:Nat):Us (a.drop k)=(Us a).drop k:=by simp [Us,List.map_drop]
theorem zcE (l : List UInt8) : ∀ u ∈ Us l, u.oneCell' = true := by
 intro u hu
 simp only [Us,List.mem_map] at hu
 obtain ⟨c,_,rfl⟩:=hu
 rfl
def Sees (w : World) (B : Nat) (A : Option Addr) (cs : List Value) : Prop :=
 cs=[]∨∃b off,A=some ⟨b,off,none⟩∧b < B∧∀j,j < cs.length→w.cell? ⟨b,off+j,none⟩=cs[j]?
section
variable {w w':World} {B B':Nat} {A:Option Addr} {cs:List Value}
theorem Sees.at_ {k : Nat} (h : Sees w B A cs) (hk : k < cs.length) :
 ∃b off,A=some ⟨b,off,none⟩∧b < B∧∀j,j < cs.length→w.cell? ⟨b,off+j,none⟩=cs[j]? := by
 rcases h with rfl | h
 · simp at hk
 · exact h
theorem Sees.keep (h : Sees w B A cs) (hk : ∀ p : Addr, p.block < B → w'.cell? p = w.cell? p) : Sees w' B A cs := by
 rcases h with h | ⟨b,off,e,hb,hc⟩
 · exact .inl h
 · exact .inr ⟨b,off,e,hb,fun j hj=>(hk _ hb).trans (hc j hj)⟩
theorem Sees.more (h : Sees w B A cs) (hB : B ≤ B') : Sees w B' A cs := by
 rcases h with h | ⟨b,off,e,hb,hc⟩
 · exact .inl h
 · exact .inr ⟨b,off,e,by omega,hc⟩
theorem Sees.below (h:Sees w B A cs) (hb:Below B w w'):Sees w' B A cs:=h.keep fun _ hp=>hb.cell hp
theorem Sees.drewN (h:Sees w B A cs) (n:Nat):Sees (w.drewN n) B A cs:=h
theorem Sees.drew (h:Sees w B A cs):Sees w.drew B A cs:=h
theorem Sees.alloc (h:Sees w B A cs) (hB:B≤w.heap.size) (o:Obj):Sees (w.alloc o) B A cs:=h.keep fun p hp=>World.cell?_alloc_lt w o p (by omega)
theorem Sees.take (h : Sees w B A cs) (k : Nat) : Sees w B A (cs.take k) := by
 rcases h with rfl | ⟨b,off,e,hb,hc⟩
 · exact .inl (by simp)
 · refine .inr ⟨b, off, e, hb, fun j hj => ?_⟩
   rw [List.length_take] at hj
   rw [hc j (by omega),List.getElem?_take,if_pos (by omega)]
theorem Sees.cut (h : Sees w B A cs) {k : Nat} (hk : k < cs.length) : Sees w B (A.map (·.add k)) (cs.drop k) := by
 obtain ⟨b,off,rfl,hb,hc⟩:=h.at_ (k:=k) hk
 refine .inr ⟨b,off+k,?_,hb,fun j hj=>?_⟩
 · simp only [Option.map_some, Option.some.injEq]
   unfold Addr.add;split <;> simp_all
 · rw [List.length_drop] at hj
   rw [Nat.add_assoc,hc _ (by omega),List.getElem?_drop]
theorem Sees.of_own {base : Nat} {e : TypeId} {n c : Nat} (h : w.ownsRow base e 1 (.slice A n c) n cs) : Sees w w.heap.size A cs := by
 obtain ⟨hl,h⟩:=h
 rcases h with ⟨_,rfl⟩ | ⟨g,cap,cur,hv,hg,hh,hn,hm,hs,ht⟩
 · exact .inl (List.eq_nil_of_length_eq_zero (by simpa using hl))
 · injection hv with hv
   refine .inr ⟨g,0,hv,?_,fun j hj=>?_⟩
   · rcases Nat.lt_or_ge g w.heap.size with h | h
     · exact h
     · rw [Array.getElem?_eq_none h] at hh;cases hh
   · rw [Nat.zero_add,cell_of_row w g j cur e (0,0) hh,←ht,List.getElem?_take,if_pos (by omega),Array.getElem?_toList]
end
theorem Sees.on {w w':World} {A:Option Addr} {cs:List Value} (h:Sees w w.heap.size A cs) (hb:Below w.heap.size w w'):Sees w' w'.heap.size A cs:=(h.below hb).more hb.size
theorem zaf {w w' w2:World} (h:Below w.heap.size w w') (hb:Below w'.heap.size w' w2):Below w.heap.size w w2:=h.trans (hb.mono h.size)
theorem zbS (B:Nat) (w:World) (n:Nat):Below B w (w.drewN n):=⟨rfl,rfl,rfl,Nat.le_refl _,fun _ _=>rfl⟩
def zfd (f:Nat→UInt8) (n:Nat) (p:Nat→Bool):List UInt8:=(List.range n).map fun i=>if p i then f i else 0
theorem fillP_length (f:Nat→UInt8) (n:Nat) (p:Nat→Bool):(zfd f n p).length=n:=by simp [zfd]
theorem fillP_set {f : Nat → UInt8} {n j : Nat} {p q : Nat → Bool} (hj : q j = true) (hq : ∀ i, i ≠ j → q i = p i) : (zfd f n p).set j (f j) = zfd f n q := by
 apply List.ext_getElem
 · simp [zfd]
 · intro i h1 h2
   rw [List.getElem_set]
   split
   · subst_vars;simp [zfd,hj]
   · rename_i h;simp [zfd,hq i (by omega)]
theorem fillP_all {f : Nat → UInt8} {n : Nat} {p : Nat → Bool} (h : ∀ i, i < n → p i = true) : zfd f n p = (List.range n).map f := by
 apply List.ext_getElem
 · simp [zfd]
 · intro i h1 h2
   have:i < n:=by simpa [zfd] using h1
   simp [zfd,h i this]
theorem Us_set (l:List UInt8) (j:Nat) (v:UInt8):(Us l).set j (U v)=Us (l.set j v):=by simp [Us,List.map_set]
theorem Us_zeros (n:Nat):Us (List.replicate n 0)=List.replicate n (.int .u8 0):=by simp [Us,U]
def zgo (x y:List UInt8):Bool:=x==y
theorem sameB_true {x y:List UInt8} (h:x=y):zgo x y=true:=by simp [zgo,h]
def Gives (w : World) (bs : List UInt8) (er : Int) (e : Ending) (w' : World) : Prop :=
 ∃A c,e=.returned (.tuple #[.slice A bs.length c,.int .i64 er])∧Sees w' w'.heap.size A (Us bs)∧Below w.heap.size w w'
theorem zaZ (w : World) (u : Value) (t : TypeId) : ∀ j v, [u][j]? = some v → (w.alloc (.cells #[u] t)).cell? ((⟨w.heap.size, 0, none⟩ : Addr).add j) = some v :=
 World.news_of_block (heap_alloc_new w _)
theorem zbq {B:Nat} {a w:World} (h:Below B a w) (n:Nat):Below B a (w.drewN n):=⟨h.os,h.tape,h.output,h.size,h.block⟩
theorem own_form {w : World} {base : Nat} {e : TypeId} {v : Value} {n : Nat} {xs : List Value} (h : w.ownsRow base e 1 v n xs) : ∃ A c, v = .slice A n c := by
 rcases h.2 with ⟨rfl,rfl⟩ | ⟨g,cap,_,rfl,_⟩
 · exact ⟨none,0,rfl⟩
 · exact ⟨_,cap,rfl⟩
theorem Gives.drewN {w : World} {bs : List UInt8} {er : Int} {e : Ending} {w' : World} (h : Gives w bs er e w') (n : Nat) : Gives w bs er e (w'.drewN n) := by
 obtain ⟨A,c,he,hs,hb⟩:=h
 exact ⟨A,c,he,hs,zbq hb n⟩
theorem own_new {w w' : World} {base : Nat} {e : TypeId} {size : Nat} {v : Value} {n : Nat} {xs : List Value} (h : w.ownsRow base e size v n xs) (hg : w.grownBy w' none) : w'.ownsRow base e size v n xs := by
 refine h.kept hg ?_
 rcases h.2 with ⟨rfl,_⟩ | ⟨g,cap,cur,rfl,_⟩
 · left;rfl
 · right;simp [Value.ownBlock]
theorem zbm {w w' : World} {base : Nat} {e : TypeId} {size : Nat} {v : Value} {n : Nat} {xs : List Value} {g : Nat} (h : w.ownsRow base e size v n xs) (hg : w.grownBy w' (some g)) (hne : v.ownBlock ≠ some g) : w'.ownsRow base e size v n xs :=
 h.kept hg (.inr hne)
end Go.Proofs.YtnlhbknajdpnbaaGreatDoor
namespace Go.Proofs.YtnlhbknajdpnbaaGreatDoor
open Go.RowKit
set_option maxRecDepth 8000
inductive F where
 | nil
 | cons (t:Int) (v:List UInt8) (k r:F)
def F.len : F → Nat
 | .nil=>0
 | .cons _ _ _ r=>r.len+1
def F.size : F → Nat
 | .nil=>0
 | .cons _ _ k r=>k.size+r.size+1
def F.app : F → F → F
 | .nil,g=>g
 | .cons t v k r,g=>.cons t v k (r.app g)
theorem F.len_le_size : ∀ f : F, f.len ≤ f.size
 | .nil=>Nat.le_refl _
 | .cons _ _ k r=>by have:=r.len_le_size;simp only [F.len,F.size];omega
theorem F.app_nil : ∀ f : F, f.app .nil = f
 | .nil=>rfl
 | .cons t v k r=>by simp only [F.app];rw [r.app_nil]
theorem F.app_assoc (g h : F) : ∀ f : F, (f.app g).app h = f.app (g.app h)
 | .nil=>rfl
 | .cons t v k r=>by simp only [F.app];rw [F.app_assoc g h r]
theorem F.len_app (g : F) : ∀ f : F, (f.app g).len = f.len + g.len
 | .nil=>by simp [F.app,F.len]
 | .cons t v k r=>by simp only [F.app,F.len];rw [F.len_app g r];omega
theorem F.size_app (g : F) : ∀ f : F, (f.app g).size = f.size + g.size
 | .nil=>by simp [F.app,F.size]
 | .cons t v k r=>by simp only [F.app,F.size];rw [F.size_app g r];omega
theorem F.len_zero : ∀ {f : F}, f.len = 0 → f = .nil
 | .nil,_=>rfl
 | .cons _ _ _ _,h=>by simp [F.len] at h
def SeesP (w : World) (p : Nat → Prop) (A : Option Addr) (cs : List Value) : Prop :=
 cs=[]∨∃b off,A=some ⟨b,off,none⟩∧p b∧∀j,j < cs.length→w.cell? ⟨b,off+j,none⟩=cs[j]?
def HoldsP (w : World) (p : Nat → Prop) : F → List Value → Prop
 | .nil,cs=>cs=[]
 | .cons t v k r,cs=>∃Av cv Ak ck ks cs',cs=.int .i64 t::.slice Av v.length cv::.slice Ak k.len ck::cs'∧(Av=none→cv=0)∧SeesP w p Av (Us v)∧SeesP w p Ak ks∧HoldsP w p k ks∧HoldsP w p r cs'
def SeesF (w:World) (p:Nat→Prop) (A:Option Addr) (f:F):Prop:=∃cs,SeesP w p A cs∧HoldsP w p f cs
section
variable {w w':World} {p p':Nat→Prop} {A:Option Addr} {cs:List Value}
theorem SeesP.iff_sees {B:Nat}:SeesP w (· < B) A cs↔Sees w B A cs:=Iff.rfl
theorem SeesP.keep (h : SeesP w p A cs) (hk : ∀ q : Addr, p q.block → w'.cell? q = w.cell? q) : SeesP w' p A cs := by
 rcases h with h | ⟨b,off,e,hb,hc⟩
 · exact .inl h
 · exact .inr ⟨b,off,e,hb,fun j hj=>(hk _ hb).trans (hc j hj)⟩
theorem SeesP.imp (h : SeesP w p A cs) (hp : ∀ b, p b → p' b) : SeesP w p' A cs := by
 rcases h with h | ⟨b,off,e,hb,hc⟩
 · exact .inl h
 · exact .inr ⟨b,off,e,hp b hb,hc⟩
theorem HoldsP.keep (hk : ∀ q : Addr, p q.block → w'.cell? q = w.cell? q) : ∀ {f : F} {cs : List Value}, HoldsP w p f cs → HoldsP w' p f cs
 | .nil,_,h=>h
 | .cons _ _ _ _,_,⟨Av,cv,Ak,ck,ks,cs',e,h0,h1,h2,h3,h4⟩=>⟨Av,cv,Ak,ck,ks,cs',e,h0,h1.keep hk,h2.keep hk,HoldsP.keep hk h3,HoldsP.keep hk h4⟩
theorem HoldsP.imp (hp : ∀ b, p b → p' b) : ∀ {f : F} {cs : List Value}, HoldsP w p f cs → HoldsP w p' f cs
 | .nil,_,h=>h
 | .cons _ _ _ _,_,⟨Av,cv,Ak,ck,ks,cs',e,h0,h1,h2,h3,h4⟩=>⟨Av,cv,Ak,ck,ks,cs',e,h0,h1.imp hp,h2.imp hp,HoldsP.imp hp h3,HoldsP.imp hp h4⟩
theorem HoldsP.length : ∀ {f : F} {cs : List Value}, HoldsP w p f cs → cs.length = 3 * f.len
 | .nil,_,h=>by cases h;rfl
 | .cons _ _ _ _, _, ⟨_, _, _, _, _, cs', e, _, _, _, _, h4⟩ => by
   have:=HoldsP.length h4
   subst e
   simp only [List.length_cons,F.len,this]
   omega
theorem HoldsP.app : ∀ {f g : F} {cs ds : List Value}, HoldsP w p f cs → HoldsP w p g ds → HoldsP w p (f.app g) (cs ++ ds)
 | .nil,_,_,_,h,h'=>by cases h;exact h'
 | .cons _ _ _ _,_,_,_,⟨Av,cv,Ak,ck,ks,cs',e,h0,h1,h2,h3,h4⟩,h'=>⟨Av,cv,Ak,ck,ks,cs'++_,by rw [e];rfl,h0,h1,h2,h3,HoldsP.app h4 h'⟩
theorem SeesF.keep {f : F} (h : SeesF w p A f) (hk : ∀ q : Addr, p q.block → w'.cell? q = w.cell? q) : SeesF w' p A f := by
 obtain ⟨cs,h1,h2⟩:=h
 exact ⟨cs,h1.keep hk,HoldsP.keep hk h2⟩
theorem SeesF.imp {f : F} (h : SeesF w p A f) (hp : ∀ b, p b → p' b) : SeesF w p' A f := by
 obtain ⟨cs,h1,h2⟩:=h
 exact ⟨cs,h1.imp hp,HoldsP.imp hp h2⟩
theorem SeesF.on {f : F} (h : SeesF w (· < w.heap.size) A f) (hb : Below w.heap.size w w') : SeesF w' (· < w'.heap.size) A f :=
 (h.keep fun _ hq=>hb.cell hq).imp fun _ hb2=>Nat.lt_of_lt_of_le hb2 hb.size
theorem SeesF.nil_:SeesF w p A .nil:=⟨[],.inl rfl,rfl⟩
theorem zdt {k : Nat} {t : Int} {v : List UInt8} {kk r : F} (h : SeesP w p A cs) (hh : HoldsP w p (.cons t v kk r) (cs.drop (3 * k))) :
 ∃ b off Av cv Ak ck, A = some ⟨b, off, none⟩ ∧ p b ∧ w.cell? ⟨b, off + k * 3, none⟩ = some (.int .i64 t) ∧ w.cell? ⟨b, off + k * 3 + 1, none⟩ = some (.slice Av v.length cv) ∧
   w.cell? ⟨b,off+k*3+2,none⟩=some (.slice Ak kk.len ck)∧SeesP w p Av (Us v)∧SeesF w p Ak kk∧HoldsP w p r (cs.drop (3*(k+1)))∧(Av=none→cv=0):=by
 obtain ⟨Av,cv,Ak,ck,ks,cs',e,h0,h1,h2,h3,h4⟩:=hh
 have hl : 3 * k + 2 < cs.length := by
  have:=congrArg List.length e
  simp only [List.length_drop,List.length_cons] at this
  omega
 have e0 : cs[3 * k]? = some (.int .i64 t) := by
  have:=congrArg (·[0]?) e
  simpa using this
 have e1 : cs[3 * k + 1]? = some (.slice Av v.length cv) := by
  have:=congrArg (·[1]?) e
  simpa using this
 have e2 : cs[3 * k + 2]? = some (.slice Ak kk.len ck) := by
  have:=congrArg (·[2]?) e
  simpa using this
 have e3 : cs.drop (3 * (k + 1)) = cs' := by
  have:=congrArg (·.drop 3) e
  simp only [List.drop_drop,List.drop_succ_cons,List.drop_zero] at this
  rw [←this];congr 1
 rcases h with h | ⟨b,off,rfl,hb,hc⟩
 · subst h;simp at hl
 · rw [Nat.mul_comm] at e0 e1 e2
   refine ⟨b,off,Av,cv,Ak,ck,rfl,hb,(hc _ (by omega)).trans e0,?_,?_,h1,⟨ks,h2,h3⟩,by rw [e3];exact h4,h0⟩
   · rw [Nat.add_assoc];exact (hc _ (by omega)).trans e1
   · rw [Nat.add_assoc];exact (hc _ (by omega)).trans e2
theorem SeesP.src (h : SeesP w p A cs) : ∀ ad, A = some ad → ∀ j u, cs[j]? = some u → w.cell? (ad.add j) = some u := by
 intro ad e j u hu
 rcases h with h | ⟨b,off,e2,_,hc⟩
 · subst h;simp at hu
 · rw [e] at e2
   injection e2 with e2
   subst e2
   have hj:=(List.getElem?_eq_some_iff.1 hu).1
   have hadd:(⟨b,off,none⟩ : Addr).add j=⟨b,off+j,none⟩:=by unfold Addr.add;split <;> simp_all
   rw [hadd,hc j hj,hu]
theorem SeesP.none_nil (h : SeesP w p none cs) : cs = [] := by
 rcases h with h | ⟨b,off,e,_⟩
 · exact h
 · cases e
end
end Go.Proofs.YtnlhbknajdpnbaaGreatDoor
namespace Go.Proofs.YtnlhbknajdpnbaaGreatDoor
open Go.RowKit
def Fresh (w w':World) (g:Nat):Prop:=g=w.heap.size∧∃o,w'=w.alloc o
def Wr (w w':World) (g:Nat):Prop:=w'.os=w.os∧w'.tape=w.tape∧w'.output=w.output∧w'.heap.size=w.heap.size∧∀k,k≠g→w'.heap[k]? = w.heap[k]?
theorem Wr.row (w:World) (g:Nat) (cs:Array Value):Wr w (w.setRow g cs) g:=⟨rfl,rfl,rfl,by simp,fun k h=>setRow_other w g k cs h⟩
theorem Wr.cell (w:World) (a:Addr) (u:Value):Wr w (w.setCell a u) a.block:=⟨rfl,rfl,rfl,by simp [World.setCell],fun k h=>heap_setCell_other w a k u h⟩
section
variable {W w w':World} {B g k:Nat}
theorem Fresh.bl (hb : Below W.heap.size W w) (hf : Fresh w w' g) : Below W.heap.size W w' := by
 obtain ⟨_,o,rfl⟩:=hf
 exact hb.alloc hb.size o
theorem Fresh.bw (hf:Fresh w w' g):Below w.heap.size w w':=hf.bl (Below.refl _ _)
theorem Fresh.ge (hb:Below W.heap.size W w) (hf:Fresh w w' g):W.heap.size≤g:=by rw [hf.1];exact hb.size
theorem Wr.bl (hb : Below B W w) (hw : Wr w w' g) (h : B ≤ g) : Below B W w' :=
 hb.trans ⟨hw.1,hw.2.1,hw.2.2.1,by rw [hw.2.2.2.1];exact Nat.le_refl _,fun k hk=>hw.2.2.2.2 k (by omega)⟩
end
def RowV (w:World) (g:Nat) (vs:List Value):Prop:=∃ty,w.heap[g]? = some (.cells vs.toArray ty (0,0))
section
variable {w w':World} {g:Nat} {vs:List Value}
theorem RowV.lt (h : RowV w g vs) : g < w.heap.size := by
 obtain ⟨ty,h⟩:=h
 exact (Array.getElem?_eq_some_iff.1 h).1
theorem RowV.same (h : RowV w g vs) (e : w'.heap[g]? = w.heap[g]?) : RowV w' g vs := by
 obtain ⟨ty,h⟩:=h
 exact ⟨ty,e.trans h⟩
theorem RowV.on (h:RowV w g vs) (hb:Below w.heap.size w w'):RowV w' g vs:=h.same (hb.block g h.lt)
theorem RowV.cell (h : RowV w g vs) (k : Nat) : w.cell? ⟨g, k, none⟩ = vs[k]? := by
 obtain ⟨ty,h⟩:=h
 rw [cell_of_row w g k _ ty (0,0) h,←Array.getElem?_toList]
theorem RowV.free (h : RowV w g vs) (k : Nat) : w.frozen? ⟨g, k, none⟩ = false := by
 obtain ⟨ty,h⟩:=h
 exact frozen_of_row w g k _ ty h
theorem RowV.set (h : RowV w g vs) (i : Nat) (v : Value) : RowV (w.setCell ⟨g, i, none⟩ v) g (vs.set i v) := by
 obtain ⟨ty,h⟩:=h
 refine ⟨ty,?_⟩
 rw [heap_setCell_same w g i _ ty _ h]
 congr 2
 apply Array.ext'
 simp
theorem RowV.new {c : Array Value} {t : TypeId} (h : c.toList = vs) : RowV (w.alloc (.cells c t)) w.heap.size vs := by
 refine ⟨t,?_⟩
 rw [heap_alloc_new]
 congr 2
 rw [←h]
theorem RowV.below {B:Nat} (h:RowV w g vs) (hb:Below B w w') (hg:g < B):RowV w' g vs:=h.same (hb.block g hg)
theorem RowV.fresh {k:Nat} (h:RowV w k vs) (hf:Fresh w w' g):RowV w' k vs:=h.on hf.bw
theorem RowV.ne {k:Nat} (h:RowV w k vs) (hf:Fresh w w' g):k≠g:=by have:=h.lt;rw [hf.1];omega
theorem RowV.wr {k:Nat} (h:RowV w k vs) (hw:Wr w w' g) (hne:k≠g):RowV w' k vs:=h.same (hw.2.2.2.2 k hne)
theorem RowV.drew (h:RowV w g vs):RowV w.drew g vs:=h
theorem RowV.drewN (h:RowV w g vs) (n:Nat):RowV (w.drewN n) g vs:=h
theorem RowV.far (h:RowV w g vs) {a:Addr} (hne:g≠a.block) (u:Value):RowV (w.setCell a u) g vs:=h.same (heap_setCell_other w a g u hne)
theorem RowV.range (h : RowV w g vs) (o n : Nat) (hn : o + n ≤ vs.length) : w.rangeAt g o ((vs.drop o).take n) := by
 intro j v hv
 rw [h.cell,←hv]
 have hj : j < n := by
  have:=(List.getElem?_eq_some_iff.1 hv).1
  rw [List.length_take] at this
  omega
 rw [List.getElem?_take,if_pos hj,List.getElem?_drop]
theorem RowV.whole (h : RowV w g vs) : w.rangeAt g 0 vs := by
 intro j v hv
 rw [h.cell,Nat.zero_add,hv]
end
theorem wpList_make_v {P : Program} {ops : Array Oper} {rest : List Oper} {op : Oper} {a : Act} {w : World} {Q : Exit → Act → World → Prop} (hgd : op.guard = none) (ty : TypeId) (x y : Operand) (ho : op.op = .makeSlice ty x y) (vx vy : Value) (hx : a.eval x = vx) (hy : a.eval y = vy)
 (vs:List Value) (n:Nat) (e:TypeId) (hm:(Instr.makeSlice ty vx vy).run P w=.ok (.slice (some ⟨w.heap.size,0,none⟩) n n) (w.alloc (.cells vs.toArray e)))
 (hK:∀g w',Fresh w w' g→RowV w' g vs→wpList P ops Q rest (a.put op.dst (.slice (some ⟨g,0,none⟩) n n)) w'):wpList P ops Q (op::rest) a w:=by
 refine wpList_plain hgd fun K hK2=>?_
 unfold Oper.wp execOp
 simp only [ho,hx,hy,Sem.run_bind,hm,Result.andThen_ok]
 exact hK2 _ _ (hK _ _ ⟨rfl,_,rfl⟩ (RowV.new (by simp)))
section
variable {P:Program} {ops:Array Oper} {rest:List Oper} {op:Oper} {a:Act} {w:World} {Q:Exit→Act→World→Prop}
theorem zaG {d:Nat} {ty t:TypeId} {ps:String} {af:Array Edge} {gd:Option (Nat×Bool)} (h:wpList P ops Q (⟨some d,.alloc ty,t,ps,af,gd⟩::rest) a w):wpList P ops Q (⟨some d,.alloc ty,t,ps,af,gd⟩::rest) a w:=h
theorem zaa {d:Nat} {x:Operand} {ty t:TypeId} {ps:String} {af:Array Edge} {gd:Option (Nat×Bool)} (h:wpList P ops Q (⟨some d,.load ty x,t,ps,af,gd⟩::rest) a w):wpList P ops Q (⟨some d,.load ty x,t,ps,af,gd⟩::rest) a w:=h
theorem zak {i:Nat} {y:Operand} {ty t:TypeId} {ps:String} {af:Array Edge} {gd:Option (Nat×Bool)} (h:wpList P ops Q (⟨none,.store ty (.tmp i) y,t,ps,af,gd⟩::rest) a w):wpList P ops Q (⟨none,.store ty (.tmp i) y,t,ps,af,gd⟩::rest) a w:=h
theorem zam (hgd : op.guard = none) (ty : TypeId) (ho : op.op = .alloc ty) (zs : List Value)
 (hz:(P.info? ty).map (·.zero)=some (some (.agg zs.toArray)))
 (hK:∀g w',Fresh w w' g→RowV w' g zs→wpList P ops Q rest (a.put op.dst (.pointer (some ⟨g,0,none⟩))) w'):wpList P ops Q (op::rest) a w:=by
 refine wpList_plain hgd fun K hK2=>?_
 have hz2 : ∀ w, (zeroValue ty).run P w = .ok (.agg zs.toArray) w := by
  intro w
  cases hq:P.info? ty with
  | none=>simp [hq] at hz
  | some i =>
    simp [hq] at hz
    simp [zeroValue,typeInfo,hq,hz]
 have hr : (Instr.alloc ty true (.tuple #[])).run P w = .ok (.pointer (some ⟨w.heap.size, 0, none⟩)) (w.alloc (.cells zs.toArray ty)) := by
  simp [Instr.alloc,Sem.run_bind,hz2,newVar,newRow,newObj,Value.cells]
  rfl
 unfold Oper.wp execOp
 simp only [ho,Sem.run_bind,hr,Result.andThen_ok]
 exact hK2 _ _ (hK _ _ ⟨rfl,_,rfl⟩ (RowV.new (by simp)))
theorem zax (hgd : op.guard = none) (ty : TypeId) (x : Operand) (ho : op.op = .box ty x) (vs : List Value) (hx : a.eval x = .agg vs.toArray)
 (hK:∀g w',Fresh w w' g→RowV w' g vs→wpList P ops Q rest (a.put op.dst (.pointer (some ⟨g,0,none⟩))) w'):wpList P ops Q (op::rest) a w:=by
 refine wpList_plain hgd fun K hK2=>?_
 have hr : (Instr.box ty (.agg vs.toArray)).run P w = .ok (.pointer (some ⟨w.heap.size, 0, none⟩)) (w.alloc (.cells vs.toArray ty)) := by
  simp [Instr.box,newVar,newRow,newObj,Value.cells]
  rfl
 unfold Oper.wp execOp
 simp only [ho,hx,Sem.run_bind,hr,Result.andThen_ok]
 exact hK2 _ _ (hK _ _ ⟨rfl,_,rfl⟩ (RowV.new (by simp)))
theorem zan (hgd : op.guard = none) (ty : TypeId) (x y : Operand) (ho : op.op = .store ty x y) (g : Nat) (vs us : List Value)
 (hx:a.eval x=.pointer (some ⟨g,0,none⟩)) (hy:a.eval y=.agg us.toArray) (h:RowV w g vs) (hl:us.length=vs.length) (h1:∀u∈us,u.oneCell'=true) (hi:(P.info? ty).map (·.size)=some us.length)
 (hK:∀w',Wr w w' g→RowV w' g us→wpList P ops Q rest (a.put op.dst undef) w'):wpList P ops Q (op::rest) a w:=by
 obtain ⟨t,h⟩:=h
 refine wpList_plain hgd fun K hK2=>?_
 have hst:=run_storeCells_at P g 0 t us 0 _ w h (by simp;omega) h1
 have hr : (storeVar ty ⟨g, 0, none⟩ (.agg us.toArray)).run P w = .ok () (w.setRow g us.toArray) := by
  cases hq:P.info? ty with
  | none=>simp [hq] at hi
  | some i =>
    have hs:i.size=us.length:=by simpa [hq] using hi
    have e:vs.drop us.length=[]:=List.drop_eq_nil_of_le (by omega)
    simp only [Nat.add_zero,Nat.zero_add,List.take_zero,List.nil_append,e,List.append_nil] at hst
    simp [storeVar,sizeOf,typeInfo,hq,Value.cells,hs,hst]
 unfold Oper.wp execOp
 simp only [ho,hx,hy,Instr.storeAt,Instr.sureAddr,Sem.run_bind,Sem.run_pure,Result.andThen_ok,hr]
 exact hK2 _ _ (hK _ (Wr.row _ _ _) ⟨t,setRow_heap w g _ _ t (0,0) h⟩)
theorem zaj (hgd : op.guard = none) (ty : TypeId) (x y : Operand) (ho : op.op = .store ty x y) (g i : Nat) (vs : List Value) (u : Value)
 (hx:a.eval x=.pointer (some ⟨g,i,none⟩)) (hy:a.eval y=u) (h:RowV w g vs) (hlt:i < vs.length) (h1:u.oneCell'=true) (hc:u.cells=#[u]) (hi:(P.info? ty).map (·.size)=some 1)
 (hK:∀w',Wr w w' g→RowV w' g (vs.set i u)→wpList P ops Q rest (a.put op.dst undef) w'):wpList P ops Q (op::rest) a w:=by
 obtain ⟨t,h⟩:=h
 refine wpList_plain hgd fun K hK2=>?_
 have hst:=run_storeCells_at P g i t [u] 0 _ w h (by simp;omega) (by simpa using h1)
 have hr : (storeVar ty ⟨g, i, none⟩ u).run P w = .ok () (w.setRow g (vs.set i u).toArray) := by
  cases hq:P.info? ty with
  | none=>simp [hq] at hi
  | some i0 =>
    have hs:i0.size=1:=by simpa [hq] using hi
    have e:vs.take i++u::vs.drop (i+1)=vs.set i u:=(List.set_eq_take_append_cons_drop ..).trans (if_pos hlt) |>.symm
    simp only [Nat.add_zero] at hst
    simp [storeVar,sizeOf,typeInfo,hq,hc,hs,hst,e]
 unfold Oper.wp execOp
 simp only [ho,hx,hy,Instr.storeAt,Instr.sureAddr,Sem.run_bind,Sem.run_pure,Result.andThen_ok,hr]
 exact hK2 _ _ (hK _ (Wr.row _ _ _) ⟨t,setRow_heap w g _ _ t (0,0) h⟩)
theorem zaJ (hgd : op.guard = none) (ty : TypeId) (x : Operand) (ho : op.op = .load ty x) (g : Nat) (hx : a.eval x = .pointer (some ⟨g, 0, none⟩)) (vs : List Value) (d : TypeDesc)
 (h:RowV w g vs) (hu:P.underlying ty=some d) (hd:d.isRow=true) (hi:(P.info? ty).map (·.size)=some vs.length)
 (hK:wpList P ops Q rest (a.put op.dst (.agg vs.toArray)) w):wpList P ops Q (op::rest) a w :=
 wpList_load_mid hgd ty x ho g 0 hx vs d h.whole hu hd hi hK
theorem wp_alloc_v {K : Act → World → Prop} (ty : TypeId) (ho : op.op = .alloc ty) (zs : List Value)
 (hz:(P.info? ty).map (·.zero)=some (some (.agg zs.toArray)))
 (hK:∀g w',Fresh w w' g→RowV w' g zs→K (a.put op.dst (.pointer (some ⟨g,0,none⟩))) w'):op.wp P a w K Q:=by
 have hz2 : ∀ w, (zeroValue ty).run P w = .ok (.agg zs.toArray) w := by
  intro w
  cases hq:P.info? ty with
  | none=>simp [hq] at hz
  | some i =>
    simp [hq] at hz
    simp [zeroValue,typeInfo,hq,hz]
 have hr : (Instr.alloc ty true (.tuple #[])).run P w = .ok (.pointer (some ⟨w.heap.size, 0, none⟩)) (w.alloc (.cells zs.toArray ty)) := by
  simp [Instr.alloc,Sem.run_bind,hz2,newVar,newRow,newObj,Value.cells]
  rfl
 unfold Oper.wp execOp
 simp only [ho,Sem.run_bind,hr,Result.andThen_ok]
 exact hK _ _ ⟨rfl,_,rfl⟩ (RowV.new (by simp))
theorem zgH {K : Act → World → Prop} (ty : TypeId) (x y : Operand) (ho : op.op = .store ty x y) (g : Nat) (vs us : List Value)
 (hx:a.eval x=.pointer (some ⟨g,0,none⟩)) (hy:a.eval y=.agg us.toArray) (h:RowV w g vs) (hl:us.length=vs.length) (h1:∀u∈us,u.oneCell'=true) (hi:(P.info? ty).map (·.size)=some us.length)
 (hK:∀w',Wr w w' g→RowV w' g us→K (a.put op.dst undef) w'):op.wp P a w K Q:=by
 obtain ⟨t,h⟩:=h
 have hst:=run_storeCells_at P g 0 t us 0 _ w h (by simp;omega) h1
 have hr : (storeVar ty ⟨g, 0, none⟩ (.agg us.toArray)).run P w = .ok () (w.setRow g us.toArray) := by
  cases hq:P.info? ty with
  | none=>simp [hq] at hi
  | some i =>
    have hs:i.size=us.length:=by simpa [hq] using hi
    have e:vs.drop us.length=[]:=List.drop_eq_nil_of_le (by omega)
    simp only [Nat.add_zero,Nat.zero_add,List.take_zero,List.nil_append,e,List.append_nil] at hst
    simp [storeVar,sizeOf,typeInfo,hq,Value.cells,hs,hst]
 unfold Oper.wp execOp
 simp only [ho,hx,hy,Instr.storeAt,Instr.sureAddr,Sem.run_bind,Sem.run_pure,Result.andThen_ok,hr]
 exact hK _ (Wr.row _ _ _) ⟨t,setRow_heap w g _ _ t (0,0) h⟩
end
section
variable {P:Program} {fn:Func} {p u v:Tmp} {ty:TypeId}
theorem zbA (h : fn.results = #[.cell p ty]) (tmps : Array Value) (w : World) (g : Nat) (vs : List Value) (d : TypeDesc)
 (hp:tmps.getD p undef=.pointer (some ⟨g,0,none⟩)) (hg:RowV w g vs) (hu:P.underlying ty=some d) (hd:(match d with | .struct _ | .array _ _=>true | _=>false)=true) (hi:(P.info? ty).map (·.size)=some vs.length):(results fn tmps).run P w=.ok (.agg vs.toArray) w:=by
 obtain ⟨t,hg⟩:=hg
 exact results_cell_row h tmps w g t _ (0,0) d hp hg hu hd (by simpa using hi)
end
end Go.Proofs.YtnlhbknajdpnbaaGreatDoor
namespace Go.Proofs.YtnlhbknajdpnbaaGreatDoor
open Go.RowKit
theorem app_bytes {P : Program} {w : World} {ops : Array Oper} {rest : List Oper} {o : Oper} {a : Act} {Q : Exit → Act → World → Prop} (hgd : o.guard = none) (s x : Operand) (t : TypeId)
 (ho:o.op=.call { callee:=.builtin .append,args:=#[s,x],argTypes:=#[t,t] })
 (base:Nat) (e:TypeId) (i:TypeInfo) (z:Value) (ht:P.underlying t=some (.slice e)) (hi:P.info? e=some i) (hz:i.zero=some z)
 (hsize:i.size=1) (hby:i.bytes=1) (hzs:z.cells.size=1)
 (v:Value) (n:Nat) (xs:List Value) (hs:a.eval s=v) (hown:w.ownsRow base e 1 v n xs)
 (A:Option Addr) (c:Nat) (cb:List UInt8) (p:Nat→Prop) (hx:a.eval x=.slice A cb.length c) (hn:A=none→c=0) (hc:SeesP w p A (Us cb))
 (h63:n+cb.length≤maxLen) (hbytes:n+cb.length≤140737488355328) (hbase:base≤w.heap.size)
 (h:∀v' w',w'.ownsRow base e 1 v' (n+cb.length) (xs++Us cb)→w.grownBy w' v.ownBlock→wpList P ops Q rest (a.put o.dst v') w'):wpList P ops Q (o::rest) a w:=by
 cases A with
 | none =>
   have h1:cb=[]:=by have:=congrArg List.length hc.none_nil;rw [zat] at this;exact List.eq_nil_of_length_eq_zero this
   have h2:=hn rfl
   subst h1 h2
   exact wpList_append_own_none hgd s x t ho base e i 1 ht hi v n xs hs hown hx (h v w (by simpa [Us] using hown) (World.grownBy.refl _ _))
 | some ad =>
   exact wpList_append_own w hgd s x t ho base e i z 1 1 ht hi hz hsize hby hzs (by decide) v n xs hs hown ad cb.length c (Us cb) hx (by rw [zat];omega) (hc.src ad rfl) (zcE _) h63 (by omega) hbase fun v' w' h1 h2 _=>h v' w' h1 h2
end Go.Proofs.YtnlhbknajdpnbaaGreatDoor
namespace Go.Proofs.YtnlhbknajdpnbaaGreatDoor
open Go.RowKit
def numL (x:List UInt8):Nat:=x.foldl (fun n c=>256*n+c.toNat) 0
end Go.Proofs.YtnlhbknajdpnbaaGreatDoor
namespace Go.Proofs.YtnlhbknajdpnbaaGreatDoor
open Go.RowKit
theorem zaW:(Tryz.prog.info? 5).map (fun i=>(i.zero,i.size,i.bytes))=some (some (.int .u8 0),1,1):=by kernel_rfl
def Out (w:World) (B g k cap:Nat) (l:List UInt8):Prop:=w.ownsRow B 5 1 (.slice (some ⟨g,0,none⟩) k cap) k (Us l)
def Puts (w : World) (B g k cap : Nat) (l : List UInt8) (e : Ending) (w' : World) : Prop :=
 e=.returned (.slice (some ⟨g,0,none⟩) k cap)∧Out w' B g k cap l∧w.grownBy w' (some g)
theorem zby (z : Int) : ∀ u ∈ [Value.int .u8 z], u.oneCell' = true := by
 intro u hu
 simp only [List.mem_singleton] at hu
 subst hu
 rfl
theorem Out.byte {w : World} {B g k cap : Nat} {l : List UInt8} {z : Int} (b : UInt8) (hz : z = (b.toNat : Int)) (h : w.ownsRow B 5 1 (.slice (some ⟨g, 0, none⟩) k cap) k (Us l ++ [Value.int .u8 z])) : Out w B g k cap (l ++ [b]) := by
 unfold Out
 rw [zaP]
 have:Us [b]=[Value.int .u8 z]:=by rw [hz];rfl
 rw [this]
 exact h
theorem zae {a b c : World} {g : Nat} (h : a.grownBy b (some g)) (k : b.grownBy c (some g)) : a.grownBy c (some g) := by
 obtain ⟨h1,h2,h3,h4,h5⟩:=h
 obtain ⟨k1,k2,k3,k4,k5⟩:=k
 exact ⟨k1.trans h1,k2.trans h2,k3.trans h3,Nat.le_trans h4 k4,fun i hi hn=>(k5 i (Nat.lt_of_lt_of_le hi h4) hn).trans (h5 i hi hn)⟩
theorem zaD {a b : World} {row : Option Nat} (h : Below a.heap.size a b) : a.grownBy b row :=
 ⟨h.os,h.tape,h.output,h.size,fun i hi _=>h.block i hi⟩
theorem zaB (a:World) (o:Obj) (row:Option Nat):a.grownBy (a.alloc o) row:=zaD ((Below.refl _ _).alloc (Nat.le_refl _) o)
end Go.Proofs.YtnlhbknajdpnbaaGreatDoor
