/-
  What is proved here: the conversion of a byte slice to a string, and what bytes.Equal and the program's Same return, where each argument lies in memory.
-/
import Derived.Test.YtkdlfbggddllhaaRows
import Derived.Test.YtkdlfbggddllhaaPG0
import Derived.Test.YtkdlfbggddllhaaPG5
set_option linter.unusedVariables false
set_option linter.unusedSimpArgs false
namespace Go.Proofs.Ytkdlfbggddllhaa
open Go.RowKit
theorem bytes_equal (A1 A2 : Option Addr) (c1 c2 n1 n2 : Nat) (x y : List UInt8) (w : World) (B : Nat) (h1 : Sees w B A1 (Us x)) (h2 : Sees w B A2 (Us y)) (l1 : n1 = x.length) (l2 : n2 = y.length) :
 Calls Try.prog 39 #[.slice A1 n1 c1,.slice A2 n2 c2] w fun e w'=>e=.returned (.bool (sameB x y))∧w'=w:=by
 have r1:=run_conv w B A1 x h1 n1 c1 l1
 have r2:=run_conv w B A2 y h2 n2 c2 l2
 clear l1 l2
 go_enter Try.func39,Try.ntmps39
 go_wp2
 go_ret
 exact ⟨by rw [S_toList,S_toList];rfl,rfl⟩
end Go.Proofs.Ytkdlfbggddllhaa
