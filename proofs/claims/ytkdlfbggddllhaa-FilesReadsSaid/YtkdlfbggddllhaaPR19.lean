/-
  What is proved here: the reference's Decode.
-/
import Derived.Test.YtkdlfbggddllhaaPR15
import Derived.Test.YtkdlfbggddllhaaPR18
import Derived.Laws.AppendOwnNone
import Derived.Lib.Hide
import Derived.Test.YtkdlfbggddllhaaRows
import Derived.Test.YtkdlfbggddllhaaPR0
import Derived.Test.YtkdlfbggddllhaaProg
import Derived.Lib.Strings
import Derived.Lib.Slices
import Derived.Lib.Small
import Derived.Lib.Walk
import Derived.Lib.BitFns
import Derived.Test.YtkdlfbggddllhaaPR6
import Derived.Test.YtkdlfbggddllhaaPR10
import Derived.Deep.RegionWith
import Derived.Test.YtkdlfbggddllhaaPR5
import Derived.Test.YtkdlfbggddllhaaPR11
import Derived.Test.YtkdlfbggddllhaaPR16
set_option linter.unusedVariables false
set_option linter.unusedSimpArgs false
namespace Go.Proofs.Ytkdlfbggddllhaa
open Go.RowKit
def TmF (wr:World) (x:Tm) (u:Value) (c:World):Prop:=∃A cv,u=.agg (x.cs A cv).toArray∧((A=none→cv=0)∧x.d.length≤cv)∧SeesP c (newB wr c) A (Us x.d)
def TmS (wr:World) (x:Tm) (u:Value) (c:World):Prop:=∃A cv g,u=.slice (some ⟨g,0,none⟩) 1 1∧newB wr c g∧RowV c g (x.cs A cv)∧((A=none→cv=0)∧x.d.length≤cv)∧SeesP c (newB wr c) A (Us x.d)
theorem zaF {wr c c' : World} {A : Option Addr} {cs : List Value} {v : Value} (h3 : SeesP c (newB wr c) A cs) (hg : c.grownBy c' v.ownBlock) (hv : ∀ g, v.ownBlock = some g → g < wr.heap.size) : SeesP c' (newB wr c') A cs :=
 (h3.keep fun q hq=>World.cell?_of_block (hg.block _ hq.2 fun e=>by have:=hv _ e.symm;have:=hq.1;omega)).imp fun b hb=>⟨hb.1,Nat.lt_of_lt_of_le hb.2 hg.size⟩
theorem BytF.row {wr : World} {x : List UInt8} {n : Nat} {u : Value} {c c' : World} {v : Value} (h : BytF wr x n u c) (hg : c.grownBy c' v.ownBlock) (hv : ∀ g, v.ownBlock = some g → g < wr.heap.size) : BytF wr x n u c' := by
 obtain ⟨A,cv,h1,h2,h3⟩:=h
 exact ⟨A,cv,h1,h2,zaF h3 hg hv⟩
theorem TmF.row {wr : World} {x : Tm} {u : Value} {c c' : World} {v : Value} (h : TmF wr x u c) (hg : c.grownBy c' v.ownBlock) (hv : ∀ g, v.ownBlock = some g → g < wr.heap.size) : TmF wr x u c' := by
 obtain ⟨A,cv,h1,h2,h3⟩:=h
 exact ⟨A,cv,h1,h2,zaF h3 hg hv⟩
theorem TmS.row {wr : World} {x : Tm} {u : Value} {c c' : World} {v : Value} (h : TmS wr x u c) (hg : c.grownBy c' v.ownBlock) (hv : ∀ g, v.ownBlock = some g → g < wr.heap.size) : TmS wr x u c' := by
 obtain ⟨A,cv,g,h1,h0,h4,h2,h3⟩:=h
 refine ⟨A,cv,g,h1,⟨h0.1,Nat.lt_of_lt_of_le h0.2 hg.size⟩,h4.same (hg.block _ h0.2 fun e=>?_),h2,zaF h3 hg hv⟩
 have:=hv _ e.symm
 have:=h0.1
 omega
def F.k0 : F → Nat
 | .nil=>0
 | .cons _ _ k _=>k.len
end Go.Proofs.Ytkdlfbggddllhaa
namespace Go.Proofs.Ytkdlfbggddllhaa
def gP:Nat:=2147483579
end Go.Proofs.Ytkdlfbggddllhaa
namespace Go.Proofs.Ytkdlfbggddllhaa
open Go.RowKit
set_option maxRecDepth 8000
def pwN (x k:Nat):Nat:=x ^ k % gP
def PwR (x0 k0 i r y:Nat):Prop:=r < 2147483579∧y < 2147483579∧r*y ^ (k0 / 2 ^ i) % gP=x0 ^ k0 % gP
theorem PwR.start {x k:Nat} (h:x < 2147483579):PwR x k 0 1 x:=⟨by decide,h,by simp⟩
theorem PwR.done {x0 k0 i r y : Nat} (h : PwR x0 k0 i r y) (hi : k0 < 2 ^ i) : r = pwN x0 k0 := by
 obtain ⟨h1,_,h3⟩:=h
 rw [Nat.div_eq_of_lt hi,Nat.pow_zero,Nat.mul_one,Nat.mod_eq_of_lt (b:=gP) h1] at h3
 exact h3
end Go.Proofs.Ytkdlfbggddllhaa
namespace Go.Proofs.Ytkdlfbggddllhaa
open Go.RowKit
set_option maxRecDepth 8000
def QwR (x0 k0 q r y:Nat):Prop:=r < 2147483579∧y < 2147483579∧r*y ^ q % gP=x0 ^ k0 % gP
theorem QwR.start {x k:Nat} (h:x < 2147483579):QwR x k k 1 x:=⟨by decide,h,by simp⟩
theorem QwR.done {x0 k0 r y : Nat} (h : QwR x0 k0 0 r y) : r = pwN x0 k0 := by
 obtain ⟨h1,_,h3⟩:=h
 rw [Nat.pow_zero,Nat.mul_one,Nat.mod_eq_of_lt (b:=gP) h1] at h3
 exact h3
end Go.Proofs.Ytkdlfbggddllhaa
namespace Go.Proofs.Ytkdlfbggddllhaa
open Go.RowKit
set_option maxRecDepth 8000
structure Im where
 p:Int
 v:Int
 a:Int
 k:Int
 i:Int
def zerI:Im:=⟨0,0,0,0,0⟩
instance:Inhabited Im:=⟨zerI⟩
def Im.cs (x:Im):List Value:=[.int .i64 x.p,.int .i64 x.v,.int .i64 x.a,.int .i64 x.k,.int .i64 x.i]
theorem Im.cs_len (x:Im):x.cs.length=5:=rfl
theorem Im.cs_one (x : Im) : ∀ u ∈ x.cs, u.oneCell' = true := by
 intro u hu
 simp only [Im.cs,List.mem_cons,List.not_mem_nil,or_false] at hu
 rcases hu with rfl | rfl | rfl | rfl | rfl <;> rfl
section
variable {w w':World} {p p':Nat→Prop} {A:Option Addr} {l:List Im} {x:Im} {j:Nat}
end
def Im.put (x : Im) (c : Nat) (n : Int) : Im := match c with
 | 0=>{ x with p:=n }
 | 1=>{ x with v:=n }
 | 2=>{ x with a:=n }
 | 3=>{ x with k:=n }
 | _=>{ x with i:=n }
end Go.Proofs.Ytkdlfbggddllhaa
namespace Go.Proofs.Ytkdlfbggddllhaa
open Go.RowKit
def StepG (I : World → Prop) (X : Nat → Value → World → Prop) (S : Nat → Bool) (v : Nat → Value) (c : World) (a : Act) (o : Oper) (i : Nat) (a' : Act) (w' : World) : Prop :=
 ∃u,a'=a.put o.dst u∧X i u w'∧(Below c.heap.size c w'∨(I w'∧∀j,S j=true→X j (v j) w'))
section
variable {a:Act} {c:World} {o:Oper} {I:World→Prop} {X:Nat→Value→World→Prop} {S:Nat→Bool} {v:Nat→Value} {i:Nat}
theorem StepG.new {x:Value} {c':World} (h:X i x c') (hb:Below c.heap.size c c'):StepG I X S v c a o i (a.put o.dst x) c':=⟨x,rfl,h,.inl hb⟩
end
end Go.Proofs.Ytkdlfbggddllhaa
