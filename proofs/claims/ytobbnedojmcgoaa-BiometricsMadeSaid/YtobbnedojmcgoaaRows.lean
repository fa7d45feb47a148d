/-
  NARROWER THAN 'FOR EVERY INPUT', by the rows' own cells (each row's printed sentence says how): BiometricsExact: loops.
  DERIVED. THE GIVEN ROWS OF THIS SEAT. 4 by the template 'for every input the law returns true; each argument reads behind the call as it read before'; 0 by the template 'total and deterministic' (their statements: YtobbnedojmcgoaaTotals.lean).
  GIVEN WITH THE SEED: the statements are not yours to turn. If you find one false, say at which input.
  Laid BY PROGRAM, IN A SANDBOX (cutbox-rows.mjs): the forced cells as the released guide's own fill.sh prints them over the translation 6d8a5941789ef1f0… (all of the seat's roots in one cut). By AI agents, Wed Nov 11 2026. No macro, syntax, notation, axiom, sorry.
-/
import Derived.Test.YtobbnedojmcgoaaChecked
import GoSem.Claim
import GoSem.ClaimJoined
import GoSem.ClaimMapViews
import Derived.JoinedTies
import Derived.KernelRfl
namespace Go.Proofs.Ytobbnedojmcgoaa
/- THE CELL 'sum', in the pinned program and in every row, IS THE sha256 OF THE DUMP (.gsa) THAT YtobbnedojmcgoaaProg.lean LOADS. Nothing in Lean hashes anything: it is a label: what it is worth is what the hold of that sum in a sandbox is worth. -/
noncomputable def Try.pinned : Pinned := { name := "ytobbnedojmcgoaa", sum := "6d8a5941789ef1f0473791c3c531f15a1e5dc7dfe24e2f1755e64553e767a80f", checked := Try.checked }
namespace Rows
def none {H : Type} : Left H := { results := [], args := [] }

/-- 'traveldoclaw13.BiometricsValid': WHATEVER THE INPUT: true; the input reads as it did. -/
def biometricsValidSpec : ChangeSpec := { name := "biometricsValid", fn := fun _ => fun
  | [d1, d2, d3] => { results := [.lit (.bool true)], args := [d1, d2, d3] }
  | _ => none }
def biometricsValidRow : OpenClaim := { program := "ytobbnedojmcgoaa", sum := "6d8a5941789ef1f0473791c3c531f15a1e5dc7dfe24e2f1755e64553e767a80f", func := "traveldoc/traveldoclaw13.BiometricsValid", spec := "biometricsValid", unfollowed := true, recurses := true, apart := false }
def BiometricsValidSaid : Prop := biometricsValidRow.holds Try.pinned (OpenSpec.ofChange biometricsValidSpec)

/-- ITS FALSE NEIGHBOUR: 'it returns false'. Refute it at one input. -/
def biometricsValidWrong : ChangeSpec := { name := "biometricsValid", fn := fun _ => fun
  | [d1, d2, d3] => { results := [.lit (.bool false)], args := [d1, d2, d3] }
  | _ => none }
def BiometricsValidWrongFalsely : Prop := biometricsValidRow.holds Try.pinned (OpenSpec.ofChange biometricsValidWrong)

/-- 'traveldoclaw13.BiometricsExact': WHATEVER THE INPUT: true; the input reads as it did. -/
def biometricsExactSpec : ChangeSpec := { name := "biometricsExact", fn := fun _ => fun
  | [d1, d2] => { results := [.lit (.bool true)], args := [d1, d2] }
  | _ => none }
def biometricsExactRow : OpenClaim := { program := "ytobbnedojmcgoaa", sum := "6d8a5941789ef1f0473791c3c531f15a1e5dc7dfe24e2f1755e64553e767a80f", func := "traveldoc/traveldoclaw13.BiometricsExact", spec := "biometricsExact", unfollowed := true, recurses := true, loops := true, apart := false }
def BiometricsExactSaid : Prop := biometricsExactRow.holds Try.pinned (OpenSpec.ofChange biometricsExactSpec)

/-- ITS FALSE NEIGHBOUR: 'it returns false'. Refute it at one input. -/
def biometricsExactWrong : ChangeSpec := { name := "biometricsExact", fn := fun _ => fun
  | [d1, d2] => { results := [.lit (.bool false)], args := [d1, d2] }
  | _ => none }
def BiometricsExactWrongFalsely : Prop := biometricsExactRow.holds Try.pinned (OpenSpec.ofChange biometricsExactWrong)

/-- 'traveldoclaw13.BiometricsMade': WHATEVER THE INPUT: true; the input reads as it did. -/
def biometricsMadeSpec : ChangeSpec := { name := "biometricsMade", fn := fun _ => fun
  | [d] => { results := [.lit (.bool true)], args := [d] }
  | _ => none }
def biometricsMadeRow : OpenClaim := { program := "ytobbnedojmcgoaa", sum := "6d8a5941789ef1f0473791c3c531f15a1e5dc7dfe24e2f1755e64553e767a80f", func := "traveldoc/traveldoclaw13.BiometricsMade", spec := "biometricsMade", unfollowed := true, recurses := true, apart := false }
def BiometricsMadeSaid : Prop := biometricsMadeRow.holds Try.pinned (OpenSpec.ofChange biometricsMadeSpec)

/-- ITS FALSE NEIGHBOUR: 'it returns false'. Refute it at one input. -/
def biometricsMadeWrong : ChangeSpec := { name := "biometricsMade", fn := fun _ => fun
  | [d] => { results := [.lit (.bool false)], args := [d] }
  | _ => none }
def BiometricsMadeWrongFalsely : Prop := biometricsMadeRow.holds Try.pinned (OpenSpec.ofChange biometricsMadeWrong)

/-- 'traveldoclaw13.BiometricsReturns': WHATEVER THE INPUT: true; the input reads as it did. -/
def biometricsReturnsSpec : ChangeSpec := { name := "biometricsReturns", fn := fun _ => fun
  | [d] => { results := [.lit (.bool true)], args := [d] }
  | _ => none }
def biometricsReturnsRow : OpenClaim := { program := "ytobbnedojmcgoaa", sum := "6d8a5941789ef1f0473791c3c531f15a1e5dc7dfe24e2f1755e64553e767a80f", func := "traveldoc/traveldoclaw13.BiometricsReturns", spec := "biometricsReturns", unfollowed := true, recurses := true, apart := false }
def BiometricsReturnsSaid : Prop := biometricsReturnsRow.holds Try.pinned (OpenSpec.ofChange biometricsReturnsSpec)

/-- ITS FALSE NEIGHBOUR: 'it returns false'. Refute it at one input. -/
def biometricsReturnsWrong : ChangeSpec := { name := "biometricsReturns", fn := fun _ => fun
  | [d] => { results := [.lit (.bool false)], args := [d] }
  | _ => none }
def BiometricsReturnsWrongFalsely : Prop := biometricsReturnsRow.holds Try.pinned (OpenSpec.ofChange biometricsReturnsWrong)

/- THE SECOND FORM. 'bulk': how many values and letters a reading holds, each counted each time it is reached (what is shared counts as often as it is met; a slice's spare places count too). A statement '..UptoSaid' is the law's where the arguments, and the package variables that the reading takes, are together of bulk at most 1048576: NARROWER than '..Said'. Prove '..Said' where nothing that the law and all that it calls make is longer than what came in: it says more and counts as full. Else prove '..UptoSaid'. A law counts once. -/
mutual
def uptoBulk {H : Type} : DataW H → Nat
  | .lit (.string bytes) => bytes.length + 1
  | .lit _ => 1
  | .nil => 1
  | .ptr d => uptoBulk d + 1
  | .slice elems spare => uptoBulkAll elems + uptoBulkAll spare + 1
  | .agg parts => uptoBulkAll parts + 1
  | .iface _ d => uptoBulk d + 1
  | .map entries => uptoBulkEntries entries + 1
  | .held _ => 1
def uptoBulkAll {H : Type} : List (DataW H) → Nat
  | [] => 0
  | d :: r => uptoBulk d + uptoBulkAll r
def uptoBulkEntries {H : Type} : List (Lit × DataW H) → Nat
  | [] => 0
  | x :: r => uptoBulkEntry x + uptoBulkEntries r
def uptoBulkEntry {H : Type} : Lit × DataW H → Nat
  | (.string bytes, d) => bytes.length + uptoBulk d + 1
  | (_, d) => uptoBulk d + 1
 end
def uptoSmall : (H : Type) → List (DataW H) → Bool := fun _ ds => decide (uptoBulkAll ds ≤ 1048576)
def OpenSpec.upto (s : _root_.Go.ChangeSpec) : _root_.Go.OpenSpec := { _root_.Go.OpenSpec.ofChange s with cond := some uptoSmall }

/-- 'traveldoclaw13.BiometricsValid', WHERE WHAT IT READS IS OF BULK AT MOST 1048576: true; the input reads as it did. -/
def biometricsValidUptoRow : OpenClaim := { program := "ytobbnedojmcgoaa", sum := "6d8a5941789ef1f0473791c3c531f15a1e5dc7dfe24e2f1755e64553e767a80f", func := "traveldoc/traveldoclaw13.BiometricsValid", spec := "biometricsValid", unfollowed := true, recurses := true, apart := false, narrowed := true }
def BiometricsValidUptoSaid : Prop := biometricsValidUptoRow.holds Try.pinned (OpenSpec.upto biometricsValidSpec)

/-- 'traveldoclaw13.BiometricsExact', WHERE WHAT IT READS IS OF BULK AT MOST 1048576: true; the input reads as it did. -/
def biometricsExactUptoRow : OpenClaim := { program := "ytobbnedojmcgoaa", sum := "6d8a5941789ef1f0473791c3c531f15a1e5dc7dfe24e2f1755e64553e767a80f", func := "traveldoc/traveldoclaw13.BiometricsExact", spec := "biometricsExact", unfollowed := true, recurses := true, loops := true, apart := false, narrowed := true }
def BiometricsExactUptoSaid : Prop := biometricsExactUptoRow.holds Try.pinned (OpenSpec.upto biometricsExactSpec)

/-- 'traveldoclaw13.BiometricsMade', WHERE WHAT IT READS IS OF BULK AT MOST 1048576: true; the input reads as it did. -/
def biometricsMadeUptoRow : OpenClaim := { program := "ytobbnedojmcgoaa", sum := "6d8a5941789ef1f0473791c3c531f15a1e5dc7dfe24e2f1755e64553e767a80f", func := "traveldoc/traveldoclaw13.BiometricsMade", spec := "biometricsMade", unfollowed := true, recurses := true, apart := false, narrowed := true }
def BiometricsMadeUptoSaid : Prop := biometricsMadeUptoRow.holds Try.pinned (OpenSpec.upto biometricsMadeSpec)

/-- 'traveldoclaw13.BiometricsReturns', WHERE WHAT IT READS IS OF BULK AT MOST 1048576: true; the input reads as it did. -/
def biometricsReturnsUptoRow : OpenClaim := { program := "ytobbnedojmcgoaa", sum := "6d8a5941789ef1f0473791c3c531f15a1e5dc7dfe24e2f1755e64553e767a80f", func := "traveldoc/traveldoclaw13.BiometricsReturns", spec := "biometricsReturns", unfollowed := true, recurses := true, apart := false, narrowed := true }
def BiometricsReturnsUptoSaid : Prop := biometricsReturnsUptoRow.holds Try.pinned (OpenSpec.upto biometricsReturnsSpec)

end Rows
end Go.Proofs.Ytobbnedojmcgoaa
