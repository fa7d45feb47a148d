/-
  What is proved here: plain words for lists of objects and for how they lie in memory (three cells an object), with no condition; nothing of the program is used.
-/
import Derived.Test.YtkdlfbggddllhaaPG0
set_option linter.unusedVariables false
set_option linter.unusedSimpArgs false
namespace Go.Proofs.Ytkdlfbggddllhaa
open Go.RowKit
set_option maxRecDepth 8000
inductive F where
 | nil
 | cons (t:Int) (v:List UInt8) (k r:F)
def F.len : F → Nat
 | .nil=>0
 | .cons _ _ _ r=>r.len+1
def F.size : F → Nat
 | .nil=>0
 | .cons _ _ k r=>k.size+r.size+1
def F.app : F → F → F
 | .nil,g=>g
 | .cons t v k r,g=>.cons t v k (r.app g)
def SeesP (w : World) (p : Nat → Prop) (A : Option Addr) (cs : List Value) : Prop :=
 cs=[]∨∃b off,A=some ⟨b,off,none⟩∧p b∧∀j,j < cs.length→w.cell? ⟨b,off+j,none⟩=cs[j]?
def HoldsP (w : World) (p : Nat → Prop) : F → List Value → Prop
 | .nil,cs=>cs=[]
 | .cons t v k r,cs=>∃Av cv Ak ck ks cs',cs=.int .i64 t::.slice Av v.length cv::.slice Ak k.len ck::cs'∧(Av=none→cv=0)∧SeesP w p Av (Us v)∧SeesP w p Ak ks∧HoldsP w p k ks∧HoldsP w p r cs'
def SeesF (w:World) (p:Nat→Prop) (A:Option Addr) (f:F):Prop:=∃cs,SeesP w p A cs∧HoldsP w p f cs
section
variable {w w':World} {p p':Nat→Prop} {A:Option Addr} {cs:List Value}
theorem SeesP.iff_sees {B:Nat}:SeesP w (· < B) A cs↔Sees w B A cs:=Iff.rfl
theorem SeesP.keep (h : SeesP w p A cs) (hk : ∀ q : Addr, p q.block → w'.cell? q = w.cell? q) : SeesP w' p A cs := by
 rcases h with h | ⟨b,off,e,hb,hc⟩
 · exact .inl h
 · exact .inr ⟨b,off,e,hb,fun j hj=>(hk _ hb).trans (hc j hj)⟩
theorem SeesP.imp (h : SeesP w p A cs) (hp : ∀ b, p b → p' b) : SeesP w p' A cs := by
 rcases h with h | ⟨b,off,e,hb,hc⟩
 · exact .inl h
 · exact .inr ⟨b,off,e,hp b hb,hc⟩
theorem HoldsP.keep (hk : ∀ q : Addr, p q.block → w'.cell? q = w.cell? q) : ∀ {f : F} {cs : List Value}, HoldsP w p f cs → HoldsP w' p f cs
 | .nil,_,h=>h
 | .cons _ _ _ _,_,⟨Av,cv,Ak,ck,ks,cs',e,h0,h1,h2,h3,h4⟩=>⟨Av,cv,Ak,ck,ks,cs',e,h0,h1.keep hk,h2.keep hk,HoldsP.keep hk h3,HoldsP.keep hk h4⟩
theorem HoldsP.imp (hp : ∀ b, p b → p' b) : ∀ {f : F} {cs : List Value}, HoldsP w p f cs → HoldsP w p' f cs
 | .nil,_,h=>h
 | .cons _ _ _ _,_,⟨Av,cv,Ak,ck,ks,cs',e,h0,h1,h2,h3,h4⟩=>⟨Av,cv,Ak,ck,ks,cs',e,h0,h1.imp hp,h2.imp hp,HoldsP.imp hp h3,HoldsP.imp hp h4⟩
theorem HoldsP.length : ∀ {f : F} {cs : List Value}, HoldsP w p f cs → cs.length = 3 * f.len
 | .nil,_,h=>by cases h;rfl
 | .cons _ _ _ _, _, ⟨_, _, _, _, _, cs', e, _, _, _, _, h4⟩ => by
   have:=HoldsP.length h4
   subst e
   simp only [List.length_cons,F.len,this]
   omega
theorem HoldsP.app : ∀ {f g : F} {cs ds : List Value}, HoldsP w p f cs → HoldsP w p g ds → HoldsP w p (f.app g) (cs ++ ds)
 | .nil,_,_,_,h,h'=>by cases h;exact h'
 | .cons _ _ _ _,_,_,_,⟨Av,cv,Ak,ck,ks,cs',e,h0,h1,h2,h3,h4⟩,h'=>⟨Av,cv,Ak,ck,ks,cs'++_,by rw [e];rfl,h0,h1,h2,h3,HoldsP.app h4 h'⟩
theorem SeesF.keep {f : F} (h : SeesF w p A f) (hk : ∀ q : Addr, p q.block → w'.cell? q = w.cell? q) : SeesF w' p A f := by
 obtain ⟨cs,h1,h2⟩:=h
 exact ⟨cs,h1.keep hk,HoldsP.keep hk h2⟩
theorem SeesF.imp {f : F} (h : SeesF w p A f) (hp : ∀ b, p b → p' b) : SeesF w p' A f := by
 obtain ⟨cs,h1,h2⟩:=h
 exact ⟨cs,h1.imp hp,HoldsP.imp hp h2⟩
theorem SeesF.on {f : F} (h : SeesF w (· < w.heap.size) A f) (hb : Below w.heap.size w w') : SeesF w' (· < w'.heap.size) A f :=
 (h.keep fun _ hq=>hb.cell hq).imp fun _ hb2=>Nat.lt_of_lt_of_le hb2 hb.size
theorem SeesF.nil_:SeesF w p A .nil:=⟨[],.inl rfl,rfl⟩
end
end Go.Proofs.Ytkdlfbggddllhaa
