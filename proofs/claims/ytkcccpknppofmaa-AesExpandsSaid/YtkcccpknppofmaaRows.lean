/-
  No cell of these rows narrows 'for every input' (looked for: loops, veiled, ifaces, maps, wideKeys, modest, calm, conditions, laid).
  DERIVED. THE GIVEN ROWS OF THIS SEAT. 6 by the template 'for every input the law returns true; each argument reads behind the call as it read before'; 0 by the template 'total and deterministic' (their statements: YtkcccpknppofmaaTotals.lean).
  GIVEN WITH THE SEED: the statements are not yours to turn. If you find one false, say at which input.
  Laid BY PROGRAM, IN A SANDBOX (cutbox-rows.mjs): the forced cells as the released guide's own fill.sh prints them over the translation 54347a2da5bf3ee5… (all of the seat's roots in one cut). By AI agents, Wed Nov 11 2026. No macro, syntax, notation, axiom, sorry.
-/
import Derived.Test.YtkcccpknppofmaaChecked
import GoSem.Claim
import GoSem.ClaimJoined
import GoSem.ClaimMapViews
import Derived.JoinedTies
import Derived.KernelRfl
namespace Go.Proofs.Ytkcccpknppofmaa
/- THE CELL 'sum', in the pinned program and in every row, IS THE sha256 OF THE DUMP (.gsa) THAT YtkcccpknppofmaaProg.lean LOADS. Nothing in Lean hashes anything: it is a label: what it is worth is what the hold of that sum in a sandbox is worth. -/
noncomputable def Try.pinned : Pinned := { name := "ytkcccpknppofmaa", sum := "54347a2da5bf3ee5b161e94a5eed55d2a8d66599e167a6c1d2380df47a393148", checked := Try.checked }
namespace Rows
def none {H : Type} : Left H := { results := [], args := [] }

/-- 'traveldoclaw05.AesSubstitutes': WHATEVER THE INPUT: true; the input reads as it did. -/
def aesSubstitutesSpec : ChangeSpec := { name := "aesSubstitutes", fn := fun _ => fun
  | [d] => { results := [.lit (.bool true)], args := [d] }
  | _ => none }
def aesSubstitutesRow : OpenClaim := { program := "ytkcccpknppofmaa", sum := "54347a2da5bf3ee5b161e94a5eed55d2a8d66599e167a6c1d2380df47a393148", func := "traveldoc/traveldoclaw05.AesSubstitutes", spec := "aesSubstitutes", apart := false }
def AesSubstitutesSaid : Prop := aesSubstitutesRow.holds Try.pinned (OpenSpec.ofChange aesSubstitutesSpec)

/-- ITS FALSE NEIGHBOUR: 'it returns false'. Refute it at one input. -/
def aesSubstitutesWrong : ChangeSpec := { name := "aesSubstitutes", fn := fun _ => fun
  | [d] => { results := [.lit (.bool false)], args := [d] }
  | _ => none }
def AesSubstitutesWrongFalsely : Prop := aesSubstitutesRow.holds Try.pinned (OpenSpec.ofChange aesSubstitutesWrong)

/-- 'traveldoclaw05.AesExpands': WHATEVER THE INPUT: true; the input reads as it did. -/
def aesExpandsSpec : ChangeSpec := { name := "aesExpands", fn := fun _ => fun
  | [d] => { results := [.lit (.bool true)], args := [d] }
  | _ => none }
def aesExpandsRow : OpenClaim := { program := "ytkcccpknppofmaa", sum := "54347a2da5bf3ee5b161e94a5eed55d2a8d66599e167a6c1d2380df47a393148", func := "traveldoc/traveldoclaw05.AesExpands", spec := "aesExpands", apart := false }
def AesExpandsSaid : Prop := aesExpandsRow.holds Try.pinned (OpenSpec.ofChange aesExpandsSpec)

/-- ITS FALSE NEIGHBOUR: 'it returns false'. Refute it at one input. -/
def aesExpandsWrong : ChangeSpec := { name := "aesExpands", fn := fun _ => fun
  | [d] => { results := [.lit (.bool false)], args := [d] }
  | _ => none }
def AesExpandsWrongFalsely : Prop := aesExpandsRow.holds Try.pinned (OpenSpec.ofChange aesExpandsWrong)

/-- 'traveldoclaw05.AesEncrypts': WHATEVER THE INPUT: true; the input reads as it did. -/
def aesEncryptsSpec : ChangeSpec := { name := "aesEncrypts", fn := fun _ => fun
  | [d1, d2] => { results := [.lit (.bool true)], args := [d1, d2] }
  | _ => none }
def aesEncryptsRow : OpenClaim := { program := "ytkcccpknppofmaa", sum := "54347a2da5bf3ee5b161e94a5eed55d2a8d66599e167a6c1d2380df47a393148", func := "traveldoc/traveldoclaw05.AesEncrypts", spec := "aesEncrypts", apart := false }
def AesEncryptsSaid : Prop := aesEncryptsRow.holds Try.pinned (OpenSpec.ofChange aesEncryptsSpec)

/-- ITS FALSE NEIGHBOUR: 'it returns false'. Refute it at one input. -/
def aesEncryptsWrong : ChangeSpec := { name := "aesEncrypts", fn := fun _ => fun
  | [d1, d2] => { results := [.lit (.bool false)], args := [d1, d2] }
  | _ => none }
def AesEncryptsWrongFalsely : Prop := aesEncryptsRow.holds Try.pinned (OpenSpec.ofChange aesEncryptsWrong)

/-- 'traveldoclaw05.AesDecrypts': WHATEVER THE INPUT: true; the input reads as it did. -/
def aesDecryptsSpec : ChangeSpec := { name := "aesDecrypts", fn := fun _ => fun
  | [d1, d2] => { results := [.lit (.bool true)], args := [d1, d2] }
  | _ => none }
def aesDecryptsRow : OpenClaim := { program := "ytkcccpknppofmaa", sum := "54347a2da5bf3ee5b161e94a5eed55d2a8d66599e167a6c1d2380df47a393148", func := "traveldoc/traveldoclaw05.AesDecrypts", spec := "aesDecrypts", apart := false }
def AesDecryptsSaid : Prop := aesDecryptsRow.holds Try.pinned (OpenSpec.ofChange aesDecryptsSpec)

/-- ITS FALSE NEIGHBOUR: 'it returns false'. Refute it at one input. -/
def aesDecryptsWrong : ChangeSpec := { name := "aesDecrypts", fn := fun _ => fun
  | [d1, d2] => { results := [.lit (.bool false)], args := [d1, d2] }
  | _ => none }
def AesDecryptsWrongFalsely : Prop := aesDecryptsRow.holds Try.pinned (OpenSpec.ofChange aesDecryptsWrong)

/-- 'traveldoclaw05.AesReturns': WHATEVER THE INPUT: true; the input reads as it did. -/
def aesReturnsSpec : ChangeSpec := { name := "aesReturns", fn := fun _ => fun
  | [d1, d2] => { results := [.lit (.bool true)], args := [d1, d2] }
  | _ => none }
def aesReturnsRow : OpenClaim := { program := "ytkcccpknppofmaa", sum := "54347a2da5bf3ee5b161e94a5eed55d2a8d66599e167a6c1d2380df47a393148", func := "traveldoc/traveldoclaw05.AesReturns", spec := "aesReturns", apart := false }
def AesReturnsSaid : Prop := aesReturnsRow.holds Try.pinned (OpenSpec.ofChange aesReturnsSpec)

/-- ITS FALSE NEIGHBOUR: 'it returns false'. Refute it at one input. -/
def aesReturnsWrong : ChangeSpec := { name := "aesReturns", fn := fun _ => fun
  | [d1, d2] => { results := [.lit (.bool false)], args := [d1, d2] }
  | _ => none }
def AesReturnsWrongFalsely : Prop := aesReturnsRow.holds Try.pinned (OpenSpec.ofChange aesReturnsWrong)

/-- 'traveldoclaw05.AesStandard': WHATEVER THE INPUT: true; the input reads as it did. -/
def aesStandardSpec : ChangeSpec := { name := "aesStandard", fn := fun _ => fun
  | [] => { results := [.lit (.bool true)], args := [] }
  | _ => none }
def aesStandardRow : OpenClaim := { program := "ytkcccpknppofmaa", sum := "54347a2da5bf3ee5b161e94a5eed55d2a8d66599e167a6c1d2380df47a393148", func := "traveldoc/traveldoclaw05.AesStandard", spec := "aesStandard", apart := false }
def AesStandardSaid : Prop := aesStandardRow.holds Try.pinned (OpenSpec.ofChange aesStandardSpec)

/-- ITS FALSE NEIGHBOUR: 'it returns false'. Refute it at one input. -/
def aesStandardWrong : ChangeSpec := { name := "aesStandard", fn := fun _ => fun
  | [] => { results := [.lit (.bool false)], args := [] }
  | _ => none }
def AesStandardWrongFalsely : Prop := aesStandardRow.holds Try.pinned (OpenSpec.ofChange aesStandardWrong)

/- THE SECOND FORM. 'bulk': how many values and letters a reading holds, each counted each time it is reached (what is shared counts as often as it is met; a slice's spare places count too). A statement '..UptoSaid' is the law's where the arguments, and the package variables that the reading takes, are together of bulk at most 1048576: NARROWER than '..Said'. Prove '..Said' where nothing that the law and all that it calls make is longer than what came in: it says more and counts as full. Else prove '..UptoSaid'. A law counts once. -/
mutual
def uptoBulk {H : Type} : DataW H → Nat
  | .lit (.string bytes) => bytes.length + 1
  | .lit _ => 1
  | .nil => 1
  | .ptr d => uptoBulk d + 1
  | .slice elems spare => uptoBulkAll elems + uptoBulkAll spare + 1
  | .agg parts => uptoBulkAll parts + 1
  | .iface _ d => uptoBulk d + 1
  | .map entries => uptoBulkEntries entries + 1
  | .held _ => 1
def uptoBulkAll {H : Type} : List (DataW H) → Nat
  | [] => 0
  | d :: r => uptoBulk d + uptoBulkAll r
def uptoBulkEntries {H : Type} : List (Lit × DataW H) → Nat
  | [] => 0
  | x :: r => uptoBulkEntry x + uptoBulkEntries r
def uptoBulkEntry {H : Type} : Lit × DataW H → Nat
  | (.string bytes, d) => bytes.length + uptoBulk d + 1
  | (_, d) => uptoBulk d + 1
 end
def uptoSmall : (H : Type) → List (DataW H) → Bool := fun _ ds => decide (uptoBulkAll ds ≤ 1048576)
def OpenSpec.upto (s : _root_.Go.ChangeSpec) : _root_.Go.OpenSpec := { _root_.Go.OpenSpec.ofChange s with cond := some uptoSmall }

/-- 'traveldoclaw05.AesSubstitutes', WHERE WHAT IT READS IS OF BULK AT MOST 1048576: true; the input reads as it did. -/
def aesSubstitutesUptoRow : OpenClaim := { program := "ytkcccpknppofmaa", sum := "54347a2da5bf3ee5b161e94a5eed55d2a8d66599e167a6c1d2380df47a393148", func := "traveldoc/traveldoclaw05.AesSubstitutes", spec := "aesSubstitutes", apart := false, narrowed := true }
def AesSubstitutesUptoSaid : Prop := aesSubstitutesUptoRow.holds Try.pinned (OpenSpec.upto aesSubstitutesSpec)

/-- 'traveldoclaw05.AesExpands', WHERE WHAT IT READS IS OF BULK AT MOST 1048576: true; the input reads as it did. -/
def aesExpandsUptoRow : OpenClaim := { program := "ytkcccpknppofmaa", sum := "54347a2da5bf3ee5b161e94a5eed55d2a8d66599e167a6c1d2380df47a393148", func := "traveldoc/traveldoclaw05.AesExpands", spec := "aesExpands", apart := false, narrowed := true }
def AesExpandsUptoSaid : Prop := aesExpandsUptoRow.holds Try.pinned (OpenSpec.upto aesExpandsSpec)

/-- 'traveldoclaw05.AesEncrypts', WHERE WHAT IT READS IS OF BULK AT MOST 1048576: true; the input reads as it did. -/
def aesEncryptsUptoRow : OpenClaim := { program := "ytkcccpknppofmaa", sum := "54347a2da5bf3ee5b161e94a5eed55d2a8d66599e167a6c1d2380df47a393148", func := "traveldoc/traveldoclaw05.AesEncrypts", spec := "aesEncrypts", apart := false, narrowed := true }
def AesEncryptsUptoSaid : Prop := aesEncryptsUptoRow.holds Try.pinned (OpenSpec.upto aesEncryptsSpec)

/-- 'traveldoclaw05.AesDecrypts', WHERE WHAT IT READS IS OF BULK AT MOST 1048576: true; the input reads as it did. -/
def aesDecryptsUptoRow : OpenClaim := { program := "ytkcccpknppofmaa", sum := "54347a2da5bf3ee5b161e94a5eed55d2a8d66599e167a6c1d2380df47a393148", func := "traveldoc/traveldoclaw05.AesDecrypts", spec := "aesDecrypts", apart := false, narrowed := true }
def AesDecryptsUptoSaid : Prop := aesDecryptsUptoRow.holds Try.pinned (OpenSpec.upto aesDecryptsSpec)

/-- 'traveldoclaw05.AesReturns', WHERE WHAT IT READS IS OF BULK AT MOST 1048576: true; the input reads as it did. -/
def aesReturnsUptoRow : OpenClaim := { program := "ytkcccpknppofmaa", sum := "54347a2da5bf3ee5b161e94a5eed55d2a8d66599e167a6c1d2380df47a393148", func := "traveldoc/traveldoclaw05.AesReturns", spec := "aesReturns", apart := false, narrowed := true }
def AesReturnsUptoSaid : Prop := aesReturnsUptoRow.holds Try.pinned (OpenSpec.upto aesReturnsSpec)

/-- 'traveldoclaw05.AesStandard', WHERE WHAT IT READS IS OF BULK AT MOST 1048576: true; the input reads as it did. -/
def aesStandardUptoRow : OpenClaim := { program := "ytkcccpknppofmaa", sum := "54347a2da5bf3ee5b161e94a5eed55d2a8d66599e167a6c1d2380df47a393148", func := "traveldoc/traveldoclaw05.AesStandard", spec := "aesStandard", apart := false, narrowed := true }
def AesStandardUptoSaid : Prop := aesStandardUptoRow.holds Try.pinned (OpenSpec.upto aesStandardSpec)

end Rows
end Go.Proofs.Ytkcccpknppofmaa
