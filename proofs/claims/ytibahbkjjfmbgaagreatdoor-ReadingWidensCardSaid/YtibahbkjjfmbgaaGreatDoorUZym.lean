/-
  What is proved here: what write gives: lines in a block of their own.
-/
import Derived.Test.YtibahbkjjfmbgaaGreatDoorUY4
namespace Go.Proofs.YtibahbkjjfmbgaaGreatDoor
open Go.RowKit Go.Maps
set_option linter.unusedVariables false
def StrsM (w w' : World) (A : Option Addr) (ls : List (List UInt8)) : Prop := Strs w' A ls ∧ (ls = [] ∨ ∃ g, A = some ⟨g, 0, none⟩ ∧ w.heap.size ≤ g ∧ RowV w' g (strV ls))
theorem StrsM.up {w v w' : World} {A : Option Addr} {ls : List (List UInt8)} (h : StrsM v w' A ls) (hb : w.heap.size ≤ v.heap.size) : StrsM w w' A ls := ⟨h.1, h.2.imp id fun ⟨g, e, h1, h2⟩ => ⟨g, e, Nat.le_trans hb h1, h2⟩⟩
end Go.Proofs.YtibahbkjjfmbgaaGreatDoor
