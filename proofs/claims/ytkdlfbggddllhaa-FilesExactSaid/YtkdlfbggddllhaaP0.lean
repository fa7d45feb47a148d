/-
  What is proved here: plain words for byte slices that lie in memory (what a slice reads as, that it is kept while other blocks are made and written), with no condition; nothing of the program is used.
-/
import Derived.WalkKit
import Derived.Deep.QuietTactic
import Derived.BigQuiet
import Derived.Lib.Hide
import Derived.Deep.RegionLaw
import Derived.Deep.AppendLies
set_option linter.unusedVariables false
set_option linter.unusedSimpArgs false
namespace Go.Proofs.Ytkdlfbggddllhaa
open Go.RowKit
set_option maxRecDepth 8000
def U (c:UInt8):Value:=.int .u8 (c.toNat:Int)
def Us (l:List UInt8):List Value:=l.map U
theorem zap (l:List UInt8):(Us l).length=l.length:=by simp [Us]
theorem Us_get {l : List UInt8} {k : Nat} (h : k < l.length) : (Us l)[k]? = some (.int .u8 (l[k].toNat : Int)) := by
 simp [Us,U,h]
theorem Us_append (a b:List UInt8):Us (a++b)=Us a++Us b:=by simp [Us]
theorem Us_take (a:List UInt8) (k:Nat):Us (a.take k)=(Us a).take k:=by simp [Us,List.map_take]
theorem Us_drop (a:List UInt8) (k:Nat):Us (a.drop k)=(Us a).drop k:=by simp [Us,List.map_drop]
theorem Us_one (l : List UInt8) : ∀ u ∈ Us l, u.oneCell' = true := by
 intro u hu
 simp only [Us,List.mem_map] at hu
 obtain ⟨c,_,rfl⟩:=hu
 rfl
def Sees (w : World) (B : Nat) (A : Option Addr) (cs : List Value) : Prop :=
 cs=[]∨∃b off,A=some ⟨b,off,none⟩∧b < B∧∀j,j < cs.length→w.cell? ⟨b,off+j,none⟩=cs[j]?
section
variable {w w':World} {B B':Nat} {A:Option Addr} {cs:List Value}
theorem Sees.at_ {k : Nat} (h : Sees w B A cs) (hk : k < cs.length) :
 ∃b off,A=some ⟨b,off,none⟩∧b < B∧∀j,j < cs.length→w.cell? ⟨b,off+j,none⟩=cs[j]? := by
 rcases h with rfl | h
 · simp at hk
 · exact h
theorem Sees.keep (h : Sees w B A cs) (hk : ∀ p : Addr, p.block < B → w'.cell? p = w.cell? p) : Sees w' B A cs := by
 rcases h with h | ⟨b,off,e,hb,hc⟩
 · exact .inl h
 · exact .inr ⟨b,off,e,hb,fun j hj=>(hk _ hb).trans (hc j hj)⟩
theorem Sees.more (h : Sees w B A cs) (hB : B ≤ B') : Sees w B' A cs := by
 rcases h with h | ⟨b,off,e,hb,hc⟩
 · exact .inl h
 · exact .inr ⟨b,off,e,by omega,hc⟩
theorem Sees.below (h:Sees w B A cs) (hb:Below B w w'):Sees w' B A cs:=h.keep fun _ hp=>hb.cell hp
theorem Sees.drewN (h:Sees w B A cs) (n:Nat):Sees (w.drewN n) B A cs:=h
theorem Sees.alloc (h:Sees w B A cs) (hB:B≤w.heap.size) (o:Obj):Sees (w.alloc o) B A cs:=h.keep fun p hp=>World.cell?_alloc_lt w o p (by omega)
theorem Sees.take (h : Sees w B A cs) (k : Nat) : Sees w B A (cs.take k) := by
 rcases h with rfl | ⟨b,off,e,hb,hc⟩
 · exact .inl (by simp)
 · refine .inr ⟨b, off, e, hb, fun j hj => ?_⟩
   rw [List.length_take] at hj
   rw [hc j (by omega),List.getElem?_take,if_pos (by omega)]
theorem Sees.of_own {base : Nat} {e : TypeId} {n c : Nat} (h : w.ownsRow base e 1 (.slice A n c) n cs) : Sees w w.heap.size A cs := by
 obtain ⟨hl,h⟩:=h
 rcases h with ⟨_,rfl⟩ | ⟨g,cap,cur,hv,hg,hh,hn,hm,hs,ht⟩
 · exact .inl (List.eq_nil_of_length_eq_zero (by simpa using hl))
 · injection hv with hv
   refine .inr ⟨g,0,hv,?_,fun j hj=>?_⟩
   · rcases Nat.lt_or_ge g w.heap.size with h | h
     · exact h
     · rw [Array.getElem?_eq_none h] at hh;cases hh
   · rw [Nat.zero_add,cell_of_row w g j cur e (0,0) hh,←ht,List.getElem?_take,if_pos (by omega),Array.getElem?_toList]
end
theorem Sees.on {w w':World} {A:Option Addr} {cs:List Value} (h:Sees w w.heap.size A cs) (hb:Below w.heap.size w w'):Sees w' w'.heap.size A cs:=(h.below hb).more hb.size
theorem zaf {w w' w2:World} (h:Below w.heap.size w w') (hb:Below w'.heap.size w' w2):Below w.heap.size w w2:=h.trans (hb.mono h.size)
theorem below_drewN (B:Nat) (w:World) (n:Nat):Below B w (w.drewN n):=⟨rfl,rfl,rfl,Nat.le_refl _,fun _ _=>rfl⟩
def fillP (f:Nat→UInt8) (n:Nat) (p:Nat→Bool):List UInt8:=(List.range n).map fun i=>if p i then f i else 0
theorem fillP_length (f:Nat→UInt8) (n:Nat) (p:Nat→Bool):(fillP f n p).length=n:=by simp [fillP]
theorem fillP_all {f : Nat → UInt8} {n : Nat} {p : Nat → Bool} (h : ∀ i, i < n → p i = true) : fillP f n p = (List.range n).map f := by
 apply List.ext_getElem
 · simp [fillP]
 · intro i h1 h2
   have:i < n:=by simpa [fillP] using h1
   simp [fillP,h i this]
def zaC (x y:List UInt8):Bool:=x==y
theorem zby {x y:List UInt8} (h:x=y):zaC x y=true:=by simp [zaC,h]
theorem zbp {x y:List UInt8} (h:x≠y):zaC x y=false:=by simpa [zaC] using h
def Gives (w : World) (bs : List UInt8) (er : Int) (e : Ending) (w' : World) : Prop :=
 ∃A c,e=.returned (.tuple #[.slice A bs.length c,.int .i64 er])∧Sees w' w'.heap.size A (Us bs)∧Below w.heap.size w w'
theorem zaX {B:Nat} {a w:World} (h:Below B a w) (n:Nat):Below B a (w.drewN n):=⟨h.os,h.tape,h.output,h.size,h.block⟩
theorem Gives.drewN {w : World} {bs : List UInt8} {er : Int} {e : Ending} {w' : World} (h : Gives w bs er e w') (n : Nat) : Gives w bs er e (w'.drewN n) := by
 obtain ⟨A,c,he,hs,hb⟩:=h
 exact ⟨A,c,he,hs,zaX hb n⟩
theorem own_new {w w' : World} {base : Nat} {e : TypeId} {size : Nat} {v : Value} {n : Nat} {xs : List Value} (h : w.ownsRow base e size v n xs) (hg : w.grownBy w' none) : w'.ownsRow base e size v n xs := by
 refine h.kept hg ?_
 rcases h.2 with ⟨rfl,_⟩ | ⟨g,cap,cur,rfl,_⟩
 · left;rfl
 · right;simp [Value.ownBlock]
end Go.Proofs.Ytkdlfbggddllhaa
namespace Go.Proofs.Ytkdlfbggddllhaa
open Go.RowKit
set_option maxRecDepth 8000
inductive F where
 | nil
 | cons (t:Int) (v:List UInt8) (k r:F)
def F.len : F → Nat
 | .nil=>0
 | .cons _ _ _ r=>r.len+1
def F.size : F → Nat
 | .nil=>0
 | .cons _ _ k r=>k.size+r.size+1
def F.app : F → F → F
 | .nil,g=>g
 | .cons t v k r,g=>.cons t v k (r.app g)
theorem F.len_zero : ∀ {f : F}, f.len = 0 → f = .nil
 | .nil,_=>rfl
 | .cons _ _ _ _,h=>by simp [F.len] at h
def SeesP (w : World) (p : Nat → Prop) (A : Option Addr) (cs : List Value) : Prop :=
 cs=[]∨∃b off,A=some ⟨b,off,none⟩∧p b∧∀j,j < cs.length→w.cell? ⟨b,off+j,none⟩=cs[j]?
def HoldsP (w : World) (p : Nat → Prop) : F → List Value → Prop
 | .nil,cs=>cs=[]
 | .cons t v k r,cs=>∃Av cv Ak ck ks cs',cs=.int .i64 t::.slice Av v.length cv::.slice Ak k.len ck::cs'∧(Av=none→cv=0)∧SeesP w p Av (Us v)∧SeesP w p Ak ks∧HoldsP w p k ks∧HoldsP w p r cs'
def SeesF (w:World) (p:Nat→Prop) (A:Option Addr) (f:F):Prop:=∃cs,SeesP w p A cs∧HoldsP w p f cs
section
variable {w w':World} {p p':Nat→Prop} {A:Option Addr} {cs:List Value}
theorem SeesP.iff_sees {B:Nat}:SeesP w (· < B) A cs↔Sees w B A cs:=Iff.rfl
theorem SeesP.keep (h : SeesP w p A cs) (hk : ∀ q : Addr, p q.block → w'.cell? q = w.cell? q) : SeesP w' p A cs := by
 rcases h with h | ⟨b,off,e,hb,hc⟩
 · exact .inl h
 · exact .inr ⟨b,off,e,hb,fun j hj=>(hk _ hb).trans (hc j hj)⟩
theorem SeesP.imp (h : SeesP w p A cs) (hp : ∀ b, p b → p' b) : SeesP w p' A cs := by
 rcases h with h | ⟨b,off,e,hb,hc⟩
 · exact .inl h
 · exact .inr ⟨b,off,e,hp b hb,hc⟩
theorem HoldsP.keep (hk : ∀ q : Addr, p q.block → w'.cell? q = w.cell? q) : ∀ {f : F} {cs : List Value}, HoldsP w p f cs → HoldsP w' p f cs
 | .nil,_,h=>h
 | .cons _ _ _ _,_,⟨Av,cv,Ak,ck,ks,cs',e,h0,h1,h2,h3,h4⟩=>⟨Av,cv,Ak,ck,ks,cs',e,h0,h1.keep hk,h2.keep hk,HoldsP.keep hk h3,HoldsP.keep hk h4⟩
theorem HoldsP.imp (hp : ∀ b, p b → p' b) : ∀ {f : F} {cs : List Value}, HoldsP w p f cs → HoldsP w p' f cs
 | .nil,_,h=>h
 | .cons _ _ _ _,_,⟨Av,cv,Ak,ck,ks,cs',e,h0,h1,h2,h3,h4⟩=>⟨Av,cv,Ak,ck,ks,cs',e,h0,h1.imp hp,h2.imp hp,HoldsP.imp hp h3,HoldsP.imp hp h4⟩
theorem HoldsP.length : ∀ {f : F} {cs : List Value}, HoldsP w p f cs → cs.length = 3 * f.len
 | .nil,_,h=>by cases h;rfl
 | .cons _ _ _ _, _, ⟨_, _, _, _, _, cs', e, _, _, _, _, h4⟩ => by
   have:=HoldsP.length h4
   subst e
   simp only [List.length_cons,F.len,this]
   omega
theorem HoldsP.app : ∀ {f g : F} {cs ds : List Value}, HoldsP w p f cs → HoldsP w p g ds → HoldsP w p (f.app g) (cs ++ ds)
 | .nil,_,_,_,h,h'=>by cases h;exact h'
 | .cons _ _ _ _,_,_,_,⟨Av,cv,Ak,ck,ks,cs',e,h0,h1,h2,h3,h4⟩,h'=>⟨Av,cv,Ak,ck,ks,cs'++_,by rw [e];rfl,h0,h1,h2,h3,HoldsP.app h4 h'⟩
theorem SeesF.keep {f : F} (h : SeesF w p A f) (hk : ∀ q : Addr, p q.block → w'.cell? q = w.cell? q) : SeesF w' p A f := by
 obtain ⟨cs,h1,h2⟩:=h
 exact ⟨cs,h1.keep hk,HoldsP.keep hk h2⟩
theorem SeesF.imp {f : F} (h : SeesF w p A f) (hp : ∀ b, p b → p' b) : SeesF w p' A f := by
 obtain ⟨cs,h1,h2⟩:=h
 exact ⟨cs,h1.imp hp,HoldsP.imp hp h2⟩
theorem SeesF.on {f : F} (h : SeesF w (· < w.heap.size) A f) (hb : Below w.heap.size w w') : SeesF w' (· < w'.heap.size) A f :=
 (h.keep fun _ hq=>hb.cell hq).imp fun _ hb2=>Nat.lt_of_lt_of_le hb2 hb.size
theorem SeesF.nil_:SeesF w p A .nil:=⟨[],.inl rfl,rfl⟩
theorem SeesP.src (h : SeesP w p A cs) : ∀ ad, A = some ad → ∀ j u, cs[j]? = some u → w.cell? (ad.add j) = some u := by
 intro ad e j u hu
 rcases h with h | ⟨b,off,e2,_,hc⟩
 · subst h;simp at hu
 · rw [e] at e2
   injection e2 with e2
   subst e2
   have hj:=(List.getElem?_eq_some_iff.1 hu).1
   have hadd:(⟨b,off,none⟩ : Addr).add j=⟨b,off+j,none⟩:=by unfold Addr.add;split <;> simp_all
   rw [hadd,hc j hj,hu]
theorem SeesP.none_nil (h : SeesP w p none cs) : cs = [] := by
 rcases h with h | ⟨b,off,e,_⟩
 · exact h
 · cases e
end
end Go.Proofs.Ytkdlfbggddllhaa
