/-
  What is proved here: the laws FilesExact and FilesAllows as functions.
-/
import Derived.Test.YtkdlfbggddllhaaPR31
import Derived.Test.YtkdlfbggddllhaaPR19
import Derived.SizedLaws
import Derived.Deep.Slices
import Derived.ProofKit
import Derived.OpenShut
import Derived.WalkKit
import Derived.Lib.SmallJoins
set_option linter.unusedVariables false
set_option linter.unusedSimpArgs false
namespace Go.Proofs.Ytkdlfbggddllhaa
open Go.RowKit
set_option maxRecDepth 8000
theorem wf_i64 {n : Int} (h : (Lit.int .i64 n).wf = true) : -9223372036854775808 ≤ n ∧ n ≤ 9223372036854775807 := by
 simpa [Lit.wf,IntKind.min,IntKind.max,IntKind.signed,IntKind.bits] using h
end Go.Proofs.Ytkdlfbggddllhaa
