/-
  What is proved here: plain words for byte slices that lie in memory (what a slice reads as, that it is kept while other blocks are made and written), with no condition; nothing of the program is used.
-/
import Derived.WalkKit
import Derived.Deep.QuietTactic
import Derived.BigQuiet
import Derived.Lib.Hide
import Derived.Deep.RegionLaw
import Derived.Deep.AppendLies
set_option linter.unusedVariables false
set_option linter.unusedSimpArgs false
namespace Go.Proofs.Ytkdlfbggddllhaa
open Go.RowKit
set_option maxRecDepth 8000
def U (c:UInt8):Value:=.int .u8 (c.toNat:Int)
def Us (l:List UInt8):List Value:=l.map U
theorem zan (l:List UInt8):(Us l).length=l.length:=by simp [Us]
theorem Us_get {l : List UInt8} {k : Nat} (h : k < l.length) : (Us l)[k]? = some (.int .u8 (l[k].toNat : Int)) := by
 simp [Us,U,h]
theorem Us_append (a b:List UInt8):Us (a++b)=Us a++Us b:=by simp [Us]
theorem Us_take (a:List UInt8) (k:Nat):Us (a.take k)=(Us a).take k:=by simp [Us,List.map_take]
theorem Us_drop (a:List UInt8) (k:Nat):Us (a.drop k)=(Us a).drop k:=by simp [Us,List.map_drop]
theorem Us_one (l : List UInt8) : ∀ u ∈ Us l, u.oneCell' = true := by
 intro u hu
 simp only [Us,List.mem_map] at hu
 obtain ⟨c,_,rfl⟩:=hu
 rfl
def Sees (w : World) (B : Nat) (A : Option Addr) (cs : List Value) : Prop :=
 cs=[]∨∃b off,A=some ⟨b,off,none⟩∧b < B∧∀j,j < cs.length→w.cell? ⟨b,off+j,none⟩=cs[j]?
section
variable {w w':World} {B B':Nat} {A:Option Addr} {cs:List Value}
theorem Sees.at_ {k : Nat} (h : Sees w B A cs) (hk : k < cs.length) :
 ∃b off,A=some ⟨b,off,none⟩∧b < B∧∀j,j < cs.length→w.cell? ⟨b,off+j,none⟩=cs[j]? := by
 rcases h with rfl | h
 · simp at hk
 · exact h
theorem Sees.keep (h : Sees w B A cs) (hk : ∀ p : Addr, p.block < B → w'.cell? p = w.cell? p) : Sees w' B A cs := by
 rcases h with h | ⟨b,off,e,hb,hc⟩
 · exact .inl h
 · exact .inr ⟨b,off,e,hb,fun j hj=>(hk _ hb).trans (hc j hj)⟩
theorem Sees.more (h : Sees w B A cs) (hB : B ≤ B') : Sees w B' A cs := by
 rcases h with h | ⟨b,off,e,hb,hc⟩
 · exact .inl h
 · exact .inr ⟨b,off,e,by omega,hc⟩
theorem Sees.below (h:Sees w B A cs) (hb:Below B w w'):Sees w' B A cs:=h.keep fun _ hp=>hb.cell hp
theorem Sees.drewN (h:Sees w B A cs) (n:Nat):Sees (w.drewN n) B A cs:=h
theorem Sees.alloc (h:Sees w B A cs) (hB:B≤w.heap.size) (o:Obj):Sees (w.alloc o) B A cs:=h.keep fun p hp=>World.cell?_alloc_lt w o p (by omega)
theorem Sees.take (h : Sees w B A cs) (k : Nat) : Sees w B A (cs.take k) := by
 rcases h with rfl | ⟨b,off,e,hb,hc⟩
 · exact .inl (by simp)
 · refine .inr ⟨b, off, e, hb, fun j hj => ?_⟩
   rw [List.length_take] at hj
   rw [hc j (by omega),List.getElem?_take,if_pos (by omega)]
theorem Sees.of_own {base : Nat} {e : TypeId} {n c : Nat} (h : w.ownsRow base e 1 (.slice A n c) n cs) : Sees w w.heap.size A cs := by
 obtain ⟨hl,h⟩:=h
 rcases h with ⟨_,rfl⟩ | ⟨g,cap,cur,hv,hg,hh,hn,hm,hs,ht⟩
 · exact .inl (List.eq_nil_of_length_eq_zero (by simpa using hl))
 · injection hv with hv
   refine .inr ⟨g,0,hv,?_,fun j hj=>?_⟩
   · rcases Nat.lt_or_ge g w.heap.size with h | h
     · exact h
     · rw [Array.getElem?_eq_none h] at hh;cases hh
   · rw [Nat.zero_add,cell_of_row w g j cur e (0,0) hh,←ht,List.getElem?_take,if_pos (by omega),Array.getElem?_toList]
end
theorem Sees.on {w w':World} {A:Option Addr} {cs:List Value} (h:Sees w w.heap.size A cs) (hb:Below w.heap.size w w'):Sees w' w'.heap.size A cs:=(h.below hb).more hb.size
theorem zad {w w' w2:World} (h:Below w.heap.size w w') (hb:Below w'.heap.size w' w2):Below w.heap.size w w2:=h.trans (hb.mono h.size)
theorem zba (B:Nat) (w:World) (n:Nat):Below B w (w.drewN n):=⟨rfl,rfl,rfl,Nat.le_refl _,fun _ _=>rfl⟩
def fillP (f:Nat→UInt8) (n:Nat) (p:Nat→Bool):List UInt8:=(List.range n).map fun i=>if p i then f i else 0
theorem fillP_length (f:Nat→UInt8) (n:Nat) (p:Nat→Bool):(fillP f n p).length=n:=by simp [fillP]
theorem fillP_all {f : Nat → UInt8} {n : Nat} {p : Nat → Bool} (h : ∀ i, i < n → p i = true) : fillP f n p = (List.range n).map f := by
 apply List.ext_getElem
 · simp [fillP]
 · intro i h1 h2
   have:i < n:=by simpa [fillP] using h1
   simp [fillP,h i this]
def sameB (x y:List UInt8):Bool:=x==y
def Gives (w : World) (bs : List UInt8) (er : Int) (e : Ending) (w' : World) : Prop :=
 ∃A c,e=.returned (.tuple #[.slice A bs.length c,.int .i64 er])∧Sees w' w'.heap.size A (Us bs)∧Below w.heap.size w w'
theorem below_dn {B:Nat} {a w:World} (h:Below B a w) (n:Nat):Below B a (w.drewN n):=⟨h.os,h.tape,h.output,h.size,h.block⟩
theorem Gives.drewN {w : World} {bs : List UInt8} {er : Int} {e : Ending} {w' : World} (h : Gives w bs er e w') (n : Nat) : Gives w bs er e (w'.drewN n) := by
 obtain ⟨A,c,he,hs,hb⟩:=h
 exact ⟨A,c,he,hs,below_dn hb n⟩
theorem own_new {w w' : World} {base : Nat} {e : TypeId} {size : Nat} {v : Value} {n : Nat} {xs : List Value} (h : w.ownsRow base e size v n xs) (hg : w.grownBy w' none) : w'.ownsRow base e size v n xs := by
 refine h.kept hg ?_
 rcases h.2 with ⟨rfl,_⟩ | ⟨g,cap,cur,rfl,_⟩
 · left;rfl
 · right;simp [Value.ownBlock]
end Go.Proofs.Ytkdlfbggddllhaa
