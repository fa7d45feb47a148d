/-
  What is proved here: the law SecurityinfoMade as a function.
-/
import Derived.Test.YtcapbojjceeapaaDoorWJz
import Derived.Test.YtcapbojjceeapaaDoorWG18
namespace Go.Proofs.YtcapbojjceeapaaDoor
open Go.RowKit
set_option maxRecDepth 8000
set_option linter.unusedVariables false
set_option linter.unusedSimpArgs false
theorem newB_up {w w' : World} : ∀ b, newB w w' b → b < w'.heap.size := fun b h => And.right (show w.heap.size ≤ b ∧ b < w'.heap.size from h)
theorem newB_old {w0 w w' : World} (hw : w0.heap.size ≤ w.heap.size) : ∀ b, newB w w' b → newB w0 w' b := fun b h => ⟨Nat.le_trans hw (And.left (show w.heap.size ≤ b ∧ b < w'.heap.size from h)), newB_up b h⟩
end Go.Proofs.YtcapbojjceeapaaDoor
