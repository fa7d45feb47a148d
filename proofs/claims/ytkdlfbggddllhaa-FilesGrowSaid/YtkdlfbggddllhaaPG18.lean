/-
  What is proved here: what the reference's plain functions of the group return: residue, Secret, Pow, Near, Point; for all numbers in their ranges.
-/
import Derived.Test.YtkdlfbggddllhaaPG17
import Derived.Test.YtkdlfbggddllhaaRows
import Derived.Test.YtkdlfbggddllhaaPG0
import Derived.Test.YtkdlfbggddllhaaPG5
import Derived.Test.YtkdlfbggddllhaaPG9
import Derived.Deep.RegionWith
import Derived.Test.YtkdlfbggddllhaaPG4
import Derived.Test.YtkdlfbggddllhaaPG15
set_option linter.unusedVariables false
set_option linter.unusedSimpArgs false
namespace Go.Proofs.Ytkdlfbggddllhaa
open Go.RowKit
set_option maxRecDepth 8000
def QwR (x0 k0 q r y:Nat):Prop:=r < 2147483579∧y < 2147483579∧r*y ^ q % gP=x0 ^ k0 % gP
theorem QwR.start {x k:Nat} (h:x < 2147483579):QwR x k k 1 x:=⟨by decide,h,by simp⟩
theorem QwR.done {x0 k0 r y : Nat} (h : QwR x0 k0 0 r y) : r = pwN x0 k0 := by
 obtain ⟨h1,_,h3⟩:=h
 rw [Nat.pow_zero,Nat.mul_one,Nat.mod_eq_of_lt (b:=gP) h1] at h3
 exact h3
end Go.Proofs.Ytkdlfbggddllhaa
namespace Go.Proofs.Ytkdlfbggddllhaa
open Go.RowKit
set_option maxRecDepth 8000
structure Im where
 p:Int
 v:Int
 a:Int
 k:Int
 i:Int
def zerI:Im:=⟨0,0,0,0,0⟩
instance:Inhabited Im:=⟨zerI⟩
def Im.cs (x:Im):List Value:=[.int .i64 x.p,.int .i64 x.v,.int .i64 x.a,.int .i64 x.k,.int .i64 x.i]
theorem Im.cs_len (x:Im):x.cs.length=5:=rfl
theorem Im.cs_one (x : Im) : ∀ u ∈ x.cs, u.oneCell' = true := by
 intro u hu
 simp only [Im.cs,List.mem_cons,List.not_mem_nil,or_false] at hu
 rcases hu with rfl | rfl | rfl | rfl | rfl <;> rfl
section
variable {w w':World} {p p':Nat→Prop} {A:Option Addr} {l:List Im} {x:Im} {j:Nat}
end
def Im.get (x : Im) : Nat → Int
 | 0=>x.p
 | 1=>x.v
 | 2=>x.a
 | 3=>x.k
 | _=>x.i
def Im.put (x : Im) (c : Nat) (n : Int) : Im := match c with
 | 0=>{ x with p:=n }
 | 1=>{ x with v:=n }
 | 2=>{ x with a:=n }
 | 3=>{ x with k:=n }
 | _=>{ x with i:=n }
end Go.Proofs.Ytkdlfbggddllhaa
namespace Go.Proofs.Ytkdlfbggddllhaa
open Go.RowKit
def StepG (I : World → Prop) (X : Nat → Value → World → Prop) (S : Nat → Bool) (v : Nat → Value) (c : World) (a : Act) (o : Oper) (i : Nat) (a' : Act) (w' : World) : Prop :=
 ∃u,a'=a.put o.dst u∧X i u w'∧(Below c.heap.size c w'∨(I w'∧∀j,S j=true→X j (v j) w'))
section
variable {a:Act} {c:World} {o:Oper} {I:World→Prop} {X:Nat→Value→World→Prop} {S:Nat→Bool} {v:Nat→Value} {i:Nat}
theorem StepG.new {x:Value} {c':World} (h:X i x c') (hb:Below c.heap.size c c'):StepG I X S v c a o i (a.put o.dst x) c':=⟨x,rfl,h,.inl hb⟩
end
end Go.Proofs.Ytkdlfbggddllhaa
