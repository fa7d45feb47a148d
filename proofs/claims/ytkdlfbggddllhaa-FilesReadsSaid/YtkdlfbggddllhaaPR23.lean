/-
  What is proved here: the first error of all files, by the reference.
-/
import Derived.Test.YtkdlfbggddllhaaPR22
import Derived.Test.YtkdlfbggddllhaaPR13
set_option linter.unusedVariables false
set_option linter.unusedSimpArgs false
namespace Go.Proofs.Ytkdlfbggddllhaa
open Go.RowKit
set_option maxRecDepth 8000
theorem r_same17 (A1 A2 : Option Addr) (c1 c2 n1 n2 : Nat) (x y : List UInt8) (w : World) (h1 : SeesP w (· < w.heap.size) A1 (Us x)) (h2 : SeesP w (· < w.heap.size) A2 (Us y)) (l1 : x.length = n1) (l2 : y.length = n2) (m1 : n1 ≤ 1000000) :
 Calls Try.prog 22 #[.slice A1 n1 c1,.slice A2 n2 c2] w fun e w'=>e=.returned (.bool (zax x y))∧Below w.heap.size w w' :=
 (ref_same A1 A2 c1 c2 n1 n2 x y w w.heap.size (SeesP.iff_sees.1 h1) (SeesP.iff_sees.1 h2) l1.symm l2.symm (by unfold maxLen;omega)).mono fun e w' ⟨he,q,hw⟩=>⟨he,by rw [hw];exact below_drewN _ _ _⟩
end Go.Proofs.Ytkdlfbggddllhaa
