/-
  What is proved here: the program's Readings, for any reading.
-/
import Derived.Test.YtibahbkjjfmbgaaGreatDoorUQ1
import Derived.Test.YtibahbkjjfmbgaaGreatDoorUX6
namespace Go.Proofs.YtibahbkjjfmbgaaGreatDoor
open Go.RowKit Go.Shelf
set_option linter.unusedVariables false
attribute [local go_sem] Oper.semAt_some
def ApI (w : World) (g2 hi : Nat) (pre : List (List (List UInt8))) (X : World) : Prop :=
 ∃ (A : Option Addr) (m c : Nat) (vs : List Value), RowV X g2 [.slice A m c] ∧ pre.length = m ∧ X.ownsRow hi 25 1 (.slice A m c) m vs ∧ RdO X hi (.slice A m c) vs pre ∧ Below w.heap.size w X ∧ (m = 0 → A = none)
theorem ApI.turns {w X Y : World} {g2 hi lo : Nat} {pre : List (List (List UInt8))} (h : ApI w g2 hi pre X) (hg : g2 < lo) (hw : w.heap.size ≤ lo) (ht : Turns lo hi X Y) : ApI w g2 hi pre Y := by
 obtain ⟨A, m, c, vs, h1, h2, h3, h4, h5, h6⟩ := h
 refine ⟨A, m, c, vs, h1.below ht.1 hg, h2, ⟨h3.1, h3.2.imp id ?_⟩, h4.keep fun g hg _ hlt => ht.2 g hg hlt, h5.trans (ht.1.mono hw), h6⟩
 rintro ⟨g, cap, cur, a1, a2, a3, a4⟩
 have hlt : g < X.heap.size := (Array.getElem?_eq_some_iff.1 a3).1
 exact ⟨g, cap, cur, a1, a2, (ht.2 g a2 hlt).trans a3, a4⟩
def RdgM (w w' : World) (A : Option Addr) (X : List (List (List UInt8))) : Prop := ∀ Y : World, w'.heap.size ≤ Y.heap.size → (∀ g, w.heap.size ≤ g → g < w'.heap.size → Y.heap[g]? = w'.heap[g]?) → Rdg Y A X
theorem RdgM.nil_ {w w' : World} : RdgM w w' none [] := fun Y _ _ => ⟨[], .inl rfl, rfl, fun i r h => by simp at h⟩
theorem RdgM.up {w v w' : World} {A : Option Addr} {X : List (List (List UInt8))} (h : RdgM v w' A X) (hb : w.heap.size ≤ v.heap.size) : RdgM w w' A X := fun Y h1 h2 => h Y h1 fun g h3 h4 => h2 g (Nat.le_trans hb h3) h4
end Go.Proofs.YtibahbkjjfmbgaaGreatDoor
