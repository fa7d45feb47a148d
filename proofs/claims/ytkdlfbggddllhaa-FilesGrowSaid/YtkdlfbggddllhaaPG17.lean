/-
  What is proved here: a region that draws its order and whose statement makes variables and fills them ('x, y := e, f'): whatever the order, each variable's block holds its value at the end. Nothing of the program is used.
-/
import Derived.Test.YtkdlfbggddllhaaPG15
import Derived.Test.YtkdlfbggddllhaaPG14
import Derived.Test.YtkdlfbggddllhaaPG16
import Derived.Laws.AppendOwnNone
import Derived.Lib.Hide
import Derived.Test.YtkdlfbggddllhaaRows
import Derived.Test.YtkdlfbggddllhaaPG0
import Derived.Test.YtkdlfbggddllhaaProg
import Derived.Lib.Strings
import Derived.Lib.Slices
import Derived.Lib.Small
import Derived.Lib.Walk
import Derived.Lib.BitFns
set_option linter.unusedVariables false
set_option linter.unusedSimpArgs false
namespace Go.Proofs.Ytkdlfbggddllhaa
open Go.RowKit
structure VarSp where
 al:Nat
 st:Nat
 z:List Value
 u:List Value
def VarW (w1 : World) (Sp : List VarSp) (b : Nat → Nat) (S : Nat → Bool) (c : World) : Prop :=
 Below w1.heap.size w1 c∧(∀s∈Sp,S s.al=true→w1.heap.size≤b s.al∧RowV c (b s.al) (if S s.st=true then s.u else s.z))∧(∀s∈Sp,∀s'∈Sp,s.al≠s'.al→S s.al=true→S s'.al=true→b s.al≠b s'.al)
def VarOk (Sp:List VarSp):Bool:=Sp.all fun s=>s.al != s.st && Sp.all fun s'=>s.al != s'.st && s.st != s'.al && (s.al==s'.al)==(s.st==s'.st)
section
variable {w1 c c':World} {Sp:List VarSp} {b:Nat→Nat} {S:Nat→Bool} {i:Nat}
theorem VarW.start (w1:World) (Sp:List VarSp) (b:Nat→Nat):VarW w1 Sp b (fun _=>false) w1:=⟨Below.refl _ _,fun s _ h=>(by cases h),fun s _ s' _ _ h=>(by cases h)⟩
theorem VarW.on (h : VarW w1 Sp b S c) (hb : Below c.heap.size c c') : VarW w1 Sp b S c' :=
 ⟨zad h.1 hb,fun s hs hS=>⟨(h.2.1 s hs hS).1,(h.2.1 s hs hS).2.on hb⟩,h.2.2⟩
theorem VarW.keep (h : VarW w1 Sp b S c) (hi : (Sp.all fun s => s.al != i && s.st != i) = true) : VarW w1 Sp b (fun j => S j || j == i) c := by
 rw [List.all_eq_true] at hi
 have ea : ∀ s ∈ Sp, (S s.al || s.al == i) = S s.al ∧ (S s.st || s.st == i) = S s.st := fun s hs => by
  have:=hi s hs
  simp at this
  simp [this.1,this.2]
 refine ⟨h.1,fun s hs hS=>?_,fun s hs s' hs' hne h1 h2=>h.2.2 s hs s' hs' hne (by rw [←(ea s hs).1];exact h1) (by rw [←(ea s' hs').1];exact h2)⟩
 show _∧RowV c (b s.al) (if (S s.st || s.st==i)=true then s.u else s.z)
 rw [(ea s hs).2]
 exact h.2.1 s hs (by rw [←(ea s hs).1];exact hS)
theorem VarW.new {s0 : VarSp} {g : Nat} (hok : VarOk Sp = true) (h : VarW w1 Sp b S c) (h0 : s0 ∈ Sp) (hi : s0.al = i) (hst : S s0.st = false) (hf : Fresh c c' g) (hr : RowV c' g s0.z) (hz : ∀ s ∈ Sp, s.al = s0.al → s.z = s0.z) :
 VarW w1 Sp (fun j=>if j=i then g else b j) (fun j=>S j || j==i) c':=by
 subst hi
 unfold VarOk at hok
 rw [List.all_eq_true] at hok
 have key : ∀ s ∈ Sp, (s.st == s0.al) = false ∧ (s.al = s0.al → s.st = s0.st) := fun s hs => by
  have h1:=hok s hs
  simp only [Bool.and_eq_true,List.all_eq_true] at h1
  have h2:=h1.2 s0 h0
  refine ⟨by simpa using h2.1.2,fun e=>?_⟩
  have h3:=h2.2
  simp [e] at h3
  first | exact h3 | exact h3.symm
 refine ⟨zad h.1 hf.bw,fun s hs hS=>?_,fun s hs s' hs' hne h1 h2=>?_⟩
 · show w1.heap.size ≤ (if s.al = s0.al then g else b s.al) ∧ RowV c' (if s.al = s0.al then g else b s.al) (if (S s.st || s.st == s0.al) = true then s.u else s.z)
   rw [(key s hs).1,Bool.or_false]
   by_cases e:s.al=s0.al
   · rw [if_pos e, (key s hs).2 e, hst]
     simp only [Bool.false_eq_true,if_false]
     rw [hz s hs e]
     exact ⟨hf.ge h.1,hr⟩
   · rw [if_neg e]
     have hS':S s.al=true:=by simpa [e] using hS
     exact ⟨(h.2.1 s hs hS').1,(h.2.1 s hs hS').2.on hf.bw⟩
 · show (if s.al = s0.al then g else b s.al) ≠ (if s'.al = s0.al then g else b s'.al)
   by_cases e:s.al=s0.al
   · have e' : s'.al ≠ s0.al := fun h => hne (e.trans h.symm)
     rw [if_pos e,if_neg e']
     have hS':S s'.al=true:=by simpa [e'] using h2
     exact ((h.2.1 s' hs' hS').2.ne hf).symm
   · rw [if_neg e]
     have hS':S s.al=true:=by simpa [e] using h1
     by_cases e':s'.al=s0.al
     · rw [if_pos e']
       exact (h.2.1 s hs hS').2.ne hf
     · rw [if_neg e']
       have hS2:S s'.al=true:=by simpa [e'] using h2
       exact h.2.2 s hs s' hs' hne hS' hS2
theorem VarW.row {s0 : VarSp} (h : VarW w1 Sp b S c) (h0 : s0 ∈ Sp) (ha : S s0.al = true) (hst : S s0.st = false) : RowV c (b s0.al) s0.z := by
 have:=(h.2.1 s0 h0 ha).2
 rw [hst] at this
 simpa using this
end
end Go.Proofs.Ytkdlfbggddllhaa
namespace Go.Proofs.Ytkdlfbggddllhaa
open Go.RowKit
def TmF (wr:World) (x:Tm) (u:Value) (c:World):Prop:=∃A cv,u=.agg (x.cs A cv).toArray∧((A=none→cv=0)∧x.d.length≤cv)∧SeesP c (newB wr c) A (Us x.d)
def TmS (wr:World) (x:Tm) (u:Value) (c:World):Prop:=∃A cv g,u=.slice (some ⟨g,0,none⟩) 1 1∧newB wr c g∧RowV c g (x.cs A cv)∧((A=none→cv=0)∧x.d.length≤cv)∧SeesP c (newB wr c) A (Us x.d)
theorem zaH {wr c c' : World} {A : Option Addr} {cs : List Value} {v : Value} (h3 : SeesP c (newB wr c) A cs) (hg : c.grownBy c' v.ownBlock) (hv : ∀ g, v.ownBlock = some g → g < wr.heap.size) : SeesP c' (newB wr c') A cs :=
 (h3.keep fun q hq=>World.cell?_of_block (hg.block _ hq.2 fun e=>by have:=hv _ e.symm;have:=hq.1;omega)).imp fun b hb=>⟨hb.1,Nat.lt_of_lt_of_le hb.2 hg.size⟩
theorem BytF.row {wr : World} {x : List UInt8} {n : Nat} {u : Value} {c c' : World} {v : Value} (h : BytF wr x n u c) (hg : c.grownBy c' v.ownBlock) (hv : ∀ g, v.ownBlock = some g → g < wr.heap.size) : BytF wr x n u c' := by
 obtain ⟨A,cv,h1,h2,h3⟩:=h
 exact ⟨A,cv,h1,h2,zaH h3 hg hv⟩
theorem TmF.row {wr : World} {x : Tm} {u : Value} {c c' : World} {v : Value} (h : TmF wr x u c) (hg : c.grownBy c' v.ownBlock) (hv : ∀ g, v.ownBlock = some g → g < wr.heap.size) : TmF wr x u c' := by
 obtain ⟨A,cv,h1,h2,h3⟩:=h
 exact ⟨A,cv,h1,h2,zaH h3 hg hv⟩
theorem TmS.row {wr : World} {x : Tm} {u : Value} {c c' : World} {v : Value} (h : TmS wr x u c) (hg : c.grownBy c' v.ownBlock) (hv : ∀ g, v.ownBlock = some g → g < wr.heap.size) : TmS wr x u c' := by
 obtain ⟨A,cv,g,h1,h0,h4,h2,h3⟩:=h
 refine ⟨A,cv,g,h1,⟨h0.1,Nat.lt_of_lt_of_le h0.2 hg.size⟩,h4.same (hg.block _ h0.2 fun e=>?_),h2,zaH h3 hg hv⟩
 have:=hv _ e.symm
 have:=h0.1
 omega
def F.k0 : F → Nat
 | .nil=>0
 | .cons _ _ k _=>k.len
end Go.Proofs.Ytkdlfbggddllhaa
namespace Go.Proofs.Ytkdlfbggddllhaa
def gP:Nat:=2147483579
end Go.Proofs.Ytkdlfbggddllhaa
namespace Go.Proofs.Ytkdlfbggddllhaa
open Go.RowKit
set_option maxRecDepth 8000
def pwN (x k:Nat):Nat:=x ^ k % gP
def PwR (x0 k0 i r y:Nat):Prop:=r < 2147483579∧y < 2147483579∧r*y ^ (k0 / 2 ^ i) % gP=x0 ^ k0 % gP
theorem PwR.start {x k:Nat} (h:x < 2147483579):PwR x k 0 1 x:=⟨by decide,h,by simp⟩
theorem PwR.done {x0 k0 i r y : Nat} (h : PwR x0 k0 i r y) (hi : k0 < 2 ^ i) : r = pwN x0 k0 := by
 obtain ⟨h1,_,h3⟩:=h
 rw [Nat.div_eq_of_lt hi,Nat.pow_zero,Nat.mul_one,Nat.mod_eq_of_lt (b:=gP) h1] at h3
 exact h3
end Go.Proofs.Ytkdlfbggddllhaa
