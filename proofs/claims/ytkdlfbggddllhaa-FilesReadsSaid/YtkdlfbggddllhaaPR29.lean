/-
  What is proved here: a region that draws its order and whose operations turn memory at more places than one; the maker Template.
-/
import Derived.Test.YtkdlfbggddllhaaPR19
set_option linter.unusedVariables false
set_option linter.unusedSimpArgs false
namespace Go.Proofs.Ytkdlfbggddllhaa
open Go.RowKit
def StepT (I : World → Prop) (X : Nat → Value → World → Prop) (S : Nat → Bool) (v : Nat → Value) (c : World) (a : Act) (o : Oper) (i : Nat) (a' : Act) (w' : World) : Prop :=
 ∃u,a'=a.put o.dst u∧X i u w'∧(Below c.heap.size c w'∨(I w'∧∀j,S j=true→X j (v j) w'))
section
variable {a:Act} {c:World} {o:Oper} {I:World→Prop} {X:Nat→Value→World→Prop} {S:Nat→Bool} {v:Nat→Value} {i:Nat}
theorem StepT.new {x:Value} {c':World} (h:X i x c') (hb:Below c.heap.size c c'):StepT I X S v c a o i (a.put o.dst x) c':=⟨x,rfl,h,.inl hb⟩
end
theorem Fresh.grown {w w' : World} {g : Nat} (hf : Fresh w w' g) (row : Option Nat) : w.grownBy w' row := by
 obtain ⟨_,o,rfl⟩:=hf
 exact zaw _ _ _
theorem _root_.Go.World.grownBy.on {w a b : World} {row : Option Nat} (h : w.grownBy a row) (hb : Below a.heap.size a b) : w.grownBy b row :=
 ⟨hb.os.trans h.os,hb.tape.trans h.tape,hb.output.trans h.output,Nat.le_trans h.size hb.size,fun k hk hn=>(hb.block k (Nat.lt_of_lt_of_le hk h.size)).trans (h.block k hk hn)⟩
end Go.Proofs.Ytkdlfbggddllhaa
namespace Go.Proofs.Ytkdlfbggddllhaa
open Go.RowKit
def IntN (w:World) (A:Option Addr) (m c:Nat) (l:List Int) (cur:World):Prop:=(cur.ownsRow w.heap.size 3 1 (.slice A m c) m (Is l)∧(m=0→A=none∧c=0))∧Below w.heap.size w cur
theorem IntN.start (w:World):IntN w none 0 0 [] w:=⟨⟨World.ownsRow_nil w _ _ 1,fun _=>⟨rfl,rfl⟩⟩,Below.refl _ _⟩
theorem IntN.on {w cur cur':World} {A:Option Addr} {m c:Nat} {l:List Int} (h:IntN w A m c l cur) (hb:Below cur.heap.size cur cur'):IntN w A m c l cur':=⟨⟨own3_on h.1.1 hb,h.1.2⟩,zac h.2 hb⟩
def UseN (l:List Int) (w:World) (e:Ending) (w':World):Prop:=∃A c,e=.returned (.slice A l.length c)∧(l.length=0→A=none∧c=0)∧Below w.heap.size w w'
theorem IntN.done {w cur : World} {A : Option Addr} {m c : Nat} {l : List Int} (h : IntN w A m c l cur) : UseN l w (.returned (.slice A m c)) cur := by
 have hl:l.length=m:=by have:=h.1.1.1;simpa [Is_len] using this
 exact ⟨A,c,by rw [hl],by rw [hl];exact h.1.2,h.2⟩
end Go.Proofs.Ytkdlfbggddllhaa
