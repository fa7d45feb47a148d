/-
  What is proved here: what the makers' Lines gives: the lines of a valid zone, in a block of their own.
-/
import Derived.Test.YtibahbkjjfmbgaaGreatDoorPY19
import Derived.Test.YtibahbkjjfmbgaaGreatDoorPRbm
namespace Go.Proofs.YtibahbkjjfmbgaaGreatDoor
open Go.RowKit Go.Maps Go.Deep
set_option linter.unusedVariables false
end Go.Proofs.YtibahbkjjfmbgaaGreatDoor
