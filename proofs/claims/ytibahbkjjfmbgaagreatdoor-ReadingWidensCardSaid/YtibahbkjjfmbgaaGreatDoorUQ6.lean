/-
  What is proved here: whether two lists of lines are equal, as the reference finds it.
-/
import Derived.Test.YtibahbkjjfmbgaaGreatDoorUQ1
import Derived.Test.YtibahbkjjfmbgaaGreatDoorUY12
import Derived.Test.YtibahbkjjfmbgaaGreatDoorUQ5
import Derived.Test.YtibahbkjjfmbgaaGreatDoorUX6
import Derived.Test.YtibahbkjjfmbgaaGreatDoorUQpr
namespace Go.Proofs.YtibahbkjjfmbgaaGreatDoor
open Go.RowKit
set_option linter.unusedVariables false
theorem shape_len {ls : List (List UInt8)} (h : shapeL ls ≠ 0) : 2 ≤ ls.length ∧ ls.length ≤ 3 := by
 have e : ls.length = (ls.map List.length).length := by simp
 rw [e]
 rcases (shape_lens ls).1 h with h | h | h <;> rw [h] <;> decide
end Go.Proofs.YtibahbkjjfmbgaaGreatDoor
