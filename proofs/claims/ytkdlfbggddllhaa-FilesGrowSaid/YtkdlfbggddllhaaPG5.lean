/-
  What is proved here: plain words for lists of objects in memory whose Values and Kids lie within their capacities, as loops and indexes want them; nothing of the program is used.
-/
import Derived.Test.YtkdlfbggddllhaaPG1
import Derived.Test.YtkdlfbggddllhaaRows
import Derived.Test.YtkdlfbggddllhaaPG0
import Derived.Test.YtkdlfbggddllhaaPG4
import Derived.Test.YtkdlfbggddllhaaPG2
set_option linter.unusedVariables false
set_option linter.unusedSimpArgs false
namespace Go.Proofs.Ytkdlfbggddllhaa
open Go.RowKit
def HoldsN (w : World) (p : Nat → Prop) : F → List Value → Prop
 | .nil,cs=>cs=[]
 | .cons t v k r,cs=>∃Av cv Ak ck ks cs',cs=.int .i64 t::.slice Av v.length cv::.slice Ak k.len ck::cs'∧((Av=none→cv=0)∧v.length≤cv∧k.len≤ck)∧SeesP w p Av (Us v)∧SeesP w p Ak ks∧HoldsN w p k ks∧HoldsN w p r cs'
def SeesN (w:World) (p:Nat→Prop) (A:Option Addr) (f:F):Prop:=∃cs,SeesP w p A cs∧HoldsN w p f cs
def F.drop : F → Nat → F
 | f,0=>f
 | .nil,_+1=>.nil
 | .cons _ _ _ r,j+1=>r.drop j
section
variable {w w':World} {p p':Nat→Prop} {A:Option Addr} {cs:List Value}
theorem HoldsN.holds : ∀ {f : F} {cs : List Value}, HoldsN w p f cs → HoldsP w p f cs
 | .nil,_,h=>h
 | .cons _ _ _ _,_,⟨Av,cv,Ak,ck,ks,cs',e,h0,h1,h2,h3,h4⟩=>⟨Av,cv,Ak,ck,ks,cs',e,h0.1,h1,h2,HoldsN.holds h3,HoldsN.holds h4⟩
theorem HoldsN.keep (hk : ∀ q : Addr, p q.block → w'.cell? q = w.cell? q) : ∀ {f : F} {cs : List Value}, HoldsN w p f cs → HoldsN w' p f cs
 | .nil,_,h=>h
 | .cons _ _ _ _,_,⟨Av,cv,Ak,ck,ks,cs',e,h0,h1,h2,h3,h4⟩=>⟨Av,cv,Ak,ck,ks,cs',e,h0,h1.keep hk,h2.keep hk,HoldsN.keep hk h3,HoldsN.keep hk h4⟩
theorem HoldsN.imp (hp : ∀ b, p b → p' b) : ∀ {f : F} {cs : List Value}, HoldsN w p f cs → HoldsN w p' f cs
 | .nil,_,h=>h
 | .cons _ _ _ _,_,⟨Av,cv,Ak,ck,ks,cs',e,h0,h1,h2,h3,h4⟩=>⟨Av,cv,Ak,ck,ks,cs',e,h0,h1.imp hp,h2.imp hp,HoldsN.imp hp h3,HoldsN.imp hp h4⟩
theorem HoldsN.length {f:F} {cs:List Value} (h:HoldsN w p f cs):cs.length=3*f.len:=h.holds.length
theorem HoldsN.app : ∀ {f g : F} {cs ds : List Value}, HoldsN w p f cs → HoldsN w p g ds → HoldsN w p (f.app g) (cs ++ ds)
 | .nil,_,_,_,h,h'=>by cases h;exact h'
 | .cons _ _ _ _,_,_,_,⟨Av,cv,Ak,ck,ks,cs',e,h0,h1,h2,h3,h4⟩,h'=>⟨Av,cv,Ak,ck,ks,cs'++_,by rw [e];rfl,h0,h1,h2,h3,HoldsN.app h4 h'⟩
theorem SeesN.sees {f : F} (h : SeesN w p A f) : SeesF w p A f := by
 obtain ⟨cs,h1,h2⟩:=h
 exact ⟨cs,h1,h2.holds⟩
theorem SeesN.keep {f : F} (h : SeesN w p A f) (hk : ∀ q : Addr, p q.block → w'.cell? q = w.cell? q) : SeesN w' p A f := by
 obtain ⟨cs,h1,h2⟩:=h
 exact ⟨cs,h1.keep hk,HoldsN.keep hk h2⟩
theorem SeesN.imp {f : F} (h : SeesN w p A f) (hp : ∀ b, p b → p' b) : SeesN w p' A f := by
 obtain ⟨cs,h1,h2⟩:=h
 exact ⟨cs,h1.imp hp,HoldsN.imp hp h2⟩
theorem SeesN.on {f : F} (h : SeesN w (· < w.heap.size) A f) (hb : Below w.heap.size w w') : SeesN w' (· < w'.heap.size) A f :=
 (h.keep fun _ hq=>hb.cell hq).imp fun _ hb2=>Nat.lt_of_lt_of_le hb2 hb.size
theorem SeesN.nil_:SeesN w p A .nil:=⟨[],.inl rfl,rfl⟩
theorem SeesP.on2 (h : SeesP w (· < w.heap.size) A cs) (hb : Below w.heap.size w w') : SeesP w' (· < w'.heap.size) A cs :=
 (h.keep fun _ hq=>hb.cell hq).imp fun _ hb2=>Nat.lt_of_lt_of_le hb2 hb.size
theorem HoldsN.tail {t : Int} {v : List UInt8} {k r : F} (h : HoldsN w p (.cons t v k r) cs) : HoldsN w p r (cs.drop 3) := by
 obtain ⟨Av,cv,Ak,ck,ks,cs',e,_,_,_,_,h4⟩:=h
 rw [e];exact h4
theorem HoldsN.drop : ∀ {f : F} {cs : List Value} (j : Nat), HoldsN w p f cs → HoldsN w p (f.drop j) (cs.drop (3 * j))
 | f,cs,0,h=>by cases f <;> simpa [F.drop] using h
 | .nil, cs, j + 1, h => by
   have h:cs=[]:=h
   subst h
   simp [F.drop,HoldsN]
 | .cons _ _ _ r, cs, j + 1, h => by
   have h2:=HoldsN.drop j h.tail
   rw [List.drop_drop,show 3+3*j=3*(j+1) by omega] at h2
   exact h2
def nodV (t:Int) (Av:Option Addr) (lv cv:Nat) (Ak:Option Addr) (lk ck:Nat):List Value:=[.int .i64 t,.slice Av lv cv,.slice Ak lk ck]
theorem SeesN.tail {t : Int} {v : List UInt8} {k r : F} {b o : Nat} (h : SeesN w p (some ⟨b, o, none⟩) (.cons t v k r)) : SeesN w p (some ⟨b, o + 3, none⟩) r := by
 obtain ⟨cs,h1,h2⟩:=h
 have hl:=h2.length
 simp only [F.len] at hl
 refine ⟨cs.drop 3,?_,h2.tail⟩
 rcases h1 with h1 | ⟨b',off,e,hb,hc⟩
 · subst h1;simp at hl
 · injection e with e
   injection e with e1 e2 _
   subst e1;subst e2
   refine .inr ⟨_,_,rfl,hb,fun j hj=>?_⟩
   rw [List.length_drop] at hj
   rw [Nat.add_assoc,hc _ (by omega),List.getElem?_drop]
end
theorem rangeAt_bl {w w':World} {B g o:Nat} {vs:List Value} (h:w.rangeAt g o vs) (hb:Below B w w') (hg:g < B):w'.rangeAt g o vs:=fun j v hv=>(hb.cell (p:=⟨g,o+j,none⟩) hg).trans (h j v hv)
theorem zbl {w w':World} {g o:Nat} {vs:List Value} (h:w.rangeAt g o vs) (hg:g < w.heap.size) (hb:Below w.heap.size w w'):w'.rangeAt g o vs:=rangeAt_bl h hb hg
theorem SeesN.block {w w1 : World} {g : Nat} {f : F} {cs : List Value} (h : RowV w1 g cs) (hg : w.heap.size ≤ g) (hf : HoldsN w1 (newB w w1) f cs) : SeesN w1 (newB w w1) (some ⟨g, 0, none⟩) f :=
 ⟨cs,.inr ⟨g,0,rfl,⟨hg,h.lt⟩,fun j hj=>by rw [Nat.zero_add,h.cell]⟩,hf⟩
theorem own3_on {a b : World} {base n s : Nat} {e : TypeId} {v : Value} {xs : List Value} (h : a.ownsRow base e s v n xs) (hb : Below a.heap.size a b) : b.ownsRow base e s v n xs := by
 rcases h with ⟨h1,h2⟩
 rcases h2 with ⟨rfl,rfl⟩ | ⟨g,cap,cur,rfl,hg,hh,h4,h5,h6,h7⟩
 · exact ⟨h1,.inl ⟨rfl,rfl⟩⟩
 · exact ⟨h1,.inr ⟨g,cap,cur,rfl,hg,(hb.block g (lt_of_block hh)).trans hh,h4,h5,h6,h7⟩⟩
theorem own_lt3 {w : World} {base : Nat} {e : TypeId} {s : Nat} {v : Value} {n : Nat} {xs : List Value} (h : w.ownsRow base e s v n xs) : ∀ g, v.ownBlock = some g → base ≤ g ∧ g < w.heap.size := by
 intro g e
 rcases h.2 with ⟨rfl,rfl⟩ | ⟨g',cap,cur,rfl,hb,hh,_⟩
 · cases e
 · have : g' = g := by simpa [Value.ownBlock] using e
   subst this
   exact ⟨hb,lt_of_block hh⟩
end Go.Proofs.Ytkdlfbggddllhaa
namespace Go.Proofs.Ytkdlfbggddllhaa
open Go.RowKit
def S (x:List UInt8):ByteArray:=⟨x.toArray⟩
theorem run_conv (w : World) (B : Nat) (A : Option Addr) (x : List UInt8) (h : Sees w B A (Us x)) (n c : Nat) (hn : n = x.length) :
 (convert 45 9 (.slice A n c)).run Try.prog w=.ok (.string (S x)) w:=by
 subst hn
 have hx : strOfNums (x.map fun u => (u.toNat : Int)) = S x := by
  simp [strOfNums,S,Function.comp_def]
 rcases h with h | ⟨b,off,rfl,hb,hc⟩
 · have : x = [] := by simpa [Us] using h
   subst this
   rcases A with _ | a
   · exact run_convert_bytes_nil w _ _ Try.underlying45 Try.underlying5 _ _ _ Try.underlying9
   · rw [run_convert_bytes_string w _ _ _ _ _ _ Try.underlying45 Try.underlying5 Try.underlying9]
     exact run_bytesToString w a 0 c [] (by simpa using run_loadCells_list (P:=Try.prog) w a [] (fun j v hj=>by simp at hj))
 · have := run_convert_bytes_arg (P := Try.prog) w 45 5 Try.underlying45 Try.underlying5 b off x.length c (x.map fun u => (u.toNat : Int)) (by simp)
    (fun i hi=>by rw [hc i (by rw [zan];exact hi),Us_get hi];simp [hi]) 9 Try.underlying9
   rw [hx] at this
   exact this
theorem S_toList (x:List UInt8):(S x).toList=x:=ByteArray.toList_mk x
end Go.Proofs.Ytkdlfbggddllhaa
