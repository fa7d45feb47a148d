/-
  No cell of these rows narrows 'for every input' (looked for: loops, veiled, ifaces, maps, wideKeys, modest, calm, conditions, laid).
  DERIVED. THE GIVEN ROWS OF THIS SEAT. 6 by the template 'for every input the law returns true; each argument reads behind the call as it read before'; 0 by the template 'total and deterministic' (their statements: YtjfkekjeeiokmaaTotals.lean).
  GIVEN WITH THE SEED: the statements are not yours to turn. If you find one false, say at which input.
  Laid BY PROGRAM, IN A SANDBOX (cutbox-rows.mjs): the forced cells as the released guide's own fill.sh prints them over the translation f94e605ffa766b16… (all of the seat's roots in one cut). By AI agents, Wed Nov 11 2026. No macro, syntax, notation, axiom, sorry.
-/
import Derived.Test.YtjfkekjeeiokmaaChecked
import GoSem.Claim
import GoSem.ClaimJoined
import GoSem.ClaimMapViews
import Derived.JoinedTies
import Derived.KernelRfl
namespace Go.Proofs.Ytjfkekjeeiokmaa
/- THE CELL 'sum', in the pinned program and in every row, IS THE sha256 OF THE DUMP (.gsa) THAT YtjfkekjeeiokmaaProg.lean LOADS. Nothing in Lean hashes anything: it is a label: what it is worth is what the hold of that sum in a sandbox is worth. -/
noncomputable def Try.pinned : Pinned := { name := "ytjfkekjeeiokmaa", sum := "f94e605ffa766b168e8a340dc90df79c3835b6a6c64c3b4bd7850b890681c3f6", checked := Try.checked }
namespace Rows
def none {H : Type} : Left H := { results := [], args := [] }

/-- 'traveldoclaw08.GroupComputes': WHATEVER THE INPUT: true; the input reads as it did. -/
def groupComputesSpec : ChangeSpec := { name := "groupComputes", fn := fun _ => fun
  | [d1, d2] => { results := [.lit (.bool true)], args := [d1, d2] }
  | _ => none }
def groupComputesRow : OpenClaim := { program := "ytjfkekjeeiokmaa", sum := "f94e605ffa766b168e8a340dc90df79c3835b6a6c64c3b4bd7850b890681c3f6", func := "traveldoc/traveldoclaw08.GroupComputes", spec := "groupComputes", apart := false }
def GroupComputesSaid : Prop := groupComputesRow.holds Try.pinned (OpenSpec.ofChange groupComputesSpec)

/-- ITS FALSE NEIGHBOUR: 'it returns false'. Refute it at one input. -/
def groupComputesWrong : ChangeSpec := { name := "groupComputes", fn := fun _ => fun
  | [d1, d2] => { results := [.lit (.bool false)], args := [d1, d2] }
  | _ => none }
def GroupComputesWrongFalsely : Prop := groupComputesRow.holds Try.pinned (OpenSpec.ofChange groupComputesWrong)

/-- 'traveldoclaw08.GroupWrites': WHATEVER THE INPUT: true; the input reads as it did. -/
def groupWritesSpec : ChangeSpec := { name := "groupWrites", fn := fun _ => fun
  | [d1, d2] => { results := [.lit (.bool true)], args := [d1, d2] }
  | _ => none }
def groupWritesRow : OpenClaim := { program := "ytjfkekjeeiokmaa", sum := "f94e605ffa766b168e8a340dc90df79c3835b6a6c64c3b4bd7850b890681c3f6", func := "traveldoc/traveldoclaw08.GroupWrites", spec := "groupWrites", apart := false }
def GroupWritesSaid : Prop := groupWritesRow.holds Try.pinned (OpenSpec.ofChange groupWritesSpec)

/-- ITS FALSE NEIGHBOUR: 'it returns false'. Refute it at one input. -/
def groupWritesWrong : ChangeSpec := { name := "groupWrites", fn := fun _ => fun
  | [d1, d2] => { results := [.lit (.bool false)], args := [d1, d2] }
  | _ => none }
def GroupWritesWrongFalsely : Prop := groupWritesRow.holds Try.pinned (OpenSpec.ofChange groupWritesWrong)

/-- 'traveldoclaw08.GroupShares': WHATEVER THE INPUT: true; the input reads as it did. -/
def groupSharesSpec : ChangeSpec := { name := "groupShares", fn := fun _ => fun
  | [d1, d2] => { results := [.lit (.bool true)], args := [d1, d2] }
  | _ => none }
def groupSharesRow : OpenClaim := { program := "ytjfkekjeeiokmaa", sum := "f94e605ffa766b168e8a340dc90df79c3835b6a6c64c3b4bd7850b890681c3f6", func := "traveldoc/traveldoclaw08.GroupShares", spec := "groupShares", apart := false }
def GroupSharesSaid : Prop := groupSharesRow.holds Try.pinned (OpenSpec.ofChange groupSharesSpec)

/-- ITS FALSE NEIGHBOUR: 'it returns false'. Refute it at one input. -/
def groupSharesWrong : ChangeSpec := { name := "groupShares", fn := fun _ => fun
  | [d1, d2] => { results := [.lit (.bool false)], args := [d1, d2] }
  | _ => none }
def GroupSharesWrongFalsely : Prop := groupSharesRow.holds Try.pinned (OpenSpec.ofChange groupSharesWrong)

/-- 'traveldoclaw08.GroupAgrees': WHATEVER THE INPUT: true; the input reads as it did. -/
def groupAgreesSpec : ChangeSpec := { name := "groupAgrees", fn := fun _ => fun
  | [d1, d2] => { results := [.lit (.bool true)], args := [d1, d2] }
  | _ => none }
def groupAgreesRow : OpenClaim := { program := "ytjfkekjeeiokmaa", sum := "f94e605ffa766b168e8a340dc90df79c3835b6a6c64c3b4bd7850b890681c3f6", func := "traveldoc/traveldoclaw08.GroupAgrees", spec := "groupAgrees", apart := false }
def GroupAgreesSaid : Prop := groupAgreesRow.holds Try.pinned (OpenSpec.ofChange groupAgreesSpec)

/-- ITS FALSE NEIGHBOUR: 'it returns false'. Refute it at one input. -/
def groupAgreesWrong : ChangeSpec := { name := "groupAgrees", fn := fun _ => fun
  | [d1, d2] => { results := [.lit (.bool false)], args := [d1, d2] }
  | _ => none }
def GroupAgreesWrongFalsely : Prop := groupAgreesRow.holds Try.pinned (OpenSpec.ofChange groupAgreesWrong)

/-- 'traveldoclaw08.GroupIsAGroup': WHATEVER THE INPUT: true; the input reads as it did. -/
def groupIsAGroupSpec : ChangeSpec := { name := "groupIsAGroup", fn := fun _ => fun
  | [d1, d2, d3] => { results := [.lit (.bool true)], args := [d1, d2, d3] }
  | _ => none }
def groupIsAGroupRow : OpenClaim := { program := "ytjfkekjeeiokmaa", sum := "f94e605ffa766b168e8a340dc90df79c3835b6a6c64c3b4bd7850b890681c3f6", func := "traveldoc/traveldoclaw08.GroupIsAGroup", spec := "groupIsAGroup", apart := false }
def GroupIsAGroupSaid : Prop := groupIsAGroupRow.holds Try.pinned (OpenSpec.ofChange groupIsAGroupSpec)

/-- ITS FALSE NEIGHBOUR: 'it returns false'. Refute it at one input. -/
def groupIsAGroupWrong : ChangeSpec := { name := "groupIsAGroup", fn := fun _ => fun
  | [d1, d2, d3] => { results := [.lit (.bool false)], args := [d1, d2, d3] }
  | _ => none }
def GroupIsAGroupWrongFalsely : Prop := groupIsAGroupRow.holds Try.pinned (OpenSpec.ofChange groupIsAGroupWrong)

/-- 'traveldoclaw08.GroupHalves': WHATEVER THE INPUT: true; the input reads as it did. -/
def groupHalvesSpec : ChangeSpec := { name := "groupHalves", fn := fun _ => fun
  | [d] => { results := [.lit (.bool true)], args := [d] }
  | _ => none }
def groupHalvesRow : OpenClaim := { program := "ytjfkekjeeiokmaa", sum := "f94e605ffa766b168e8a340dc90df79c3835b6a6c64c3b4bd7850b890681c3f6", func := "traveldoc/traveldoclaw08.GroupHalves", spec := "groupHalves", apart := false }
def GroupHalvesSaid : Prop := groupHalvesRow.holds Try.pinned (OpenSpec.ofChange groupHalvesSpec)

/-- ITS FALSE NEIGHBOUR: 'it returns false'. Refute it at one input. -/
def groupHalvesWrong : ChangeSpec := { name := "groupHalves", fn := fun _ => fun
  | [d] => { results := [.lit (.bool false)], args := [d] }
  | _ => none }
def GroupHalvesWrongFalsely : Prop := groupHalvesRow.holds Try.pinned (OpenSpec.ofChange groupHalvesWrong)

/- THE SECOND FORM. 'bulk': how many values and letters a reading holds, each counted each time it is reached (what is shared counts as often as it is met; a slice's spare places count too). A statement '..UptoSaid' is the law's where the arguments, and the package variables that the reading takes, are together of bulk at most 1048576: NARROWER than '..Said'. Prove '..Said' where nothing that the law and all that it calls make is longer than what came in: it says more and counts as full. Else prove '..UptoSaid'. A law counts once. -/
mutual
def uptoBulk {H : Type} : DataW H → Nat
  | .lit (.string bytes) => bytes.length + 1
  | .lit _ => 1
  | .nil => 1
  | .ptr d => uptoBulk d + 1
  | .slice elems spare => uptoBulkAll elems + uptoBulkAll spare + 1
  | .agg parts => uptoBulkAll parts + 1
  | .iface _ d => uptoBulk d + 1
  | .map entries => uptoBulkEntries entries + 1
  | .held _ => 1
def uptoBulkAll {H : Type} : List (DataW H) → Nat
  | [] => 0
  | d :: r => uptoBulk d + uptoBulkAll r
def uptoBulkEntries {H : Type} : List (Lit × DataW H) → Nat
  | [] => 0
  | x :: r => uptoBulkEntry x + uptoBulkEntries r
def uptoBulkEntry {H : Type} : Lit × DataW H → Nat
  | (.string bytes, d) => bytes.length + uptoBulk d + 1
  | (_, d) => uptoBulk d + 1
 end
def uptoSmall : (H : Type) → List (DataW H) → Bool := fun _ ds => decide (uptoBulkAll ds ≤ 1048576)
def OpenSpec.upto (s : _root_.Go.ChangeSpec) : _root_.Go.OpenSpec := { _root_.Go.OpenSpec.ofChange s with cond := some uptoSmall }

/-- 'traveldoclaw08.GroupComputes', WHERE WHAT IT READS IS OF BULK AT MOST 1048576: true; the input reads as it did. -/
def groupComputesUptoRow : OpenClaim := { program := "ytjfkekjeeiokmaa", sum := "f94e605ffa766b168e8a340dc90df79c3835b6a6c64c3b4bd7850b890681c3f6", func := "traveldoc/traveldoclaw08.GroupComputes", spec := "groupComputes", apart := false, narrowed := true }
def GroupComputesUptoSaid : Prop := groupComputesUptoRow.holds Try.pinned (OpenSpec.upto groupComputesSpec)

/-- 'traveldoclaw08.GroupWrites', WHERE WHAT IT READS IS OF BULK AT MOST 1048576: true; the input reads as it did. -/
def groupWritesUptoRow : OpenClaim := { program := "ytjfkekjeeiokmaa", sum := "f94e605ffa766b168e8a340dc90df79c3835b6a6c64c3b4bd7850b890681c3f6", func := "traveldoc/traveldoclaw08.GroupWrites", spec := "groupWrites", apart := false, narrowed := true }
def GroupWritesUptoSaid : Prop := groupWritesUptoRow.holds Try.pinned (OpenSpec.upto groupWritesSpec)

/-- 'traveldoclaw08.GroupShares', WHERE WHAT IT READS IS OF BULK AT MOST 1048576: true; the input reads as it did. -/
def groupSharesUptoRow : OpenClaim := { program := "ytjfkekjeeiokmaa", sum := "f94e605ffa766b168e8a340dc90df79c3835b6a6c64c3b4bd7850b890681c3f6", func := "traveldoc/traveldoclaw08.GroupShares", spec := "groupShares", apart := false, narrowed := true }
def GroupSharesUptoSaid : Prop := groupSharesUptoRow.holds Try.pinned (OpenSpec.upto groupSharesSpec)

/-- 'traveldoclaw08.GroupAgrees', WHERE WHAT IT READS IS OF BULK AT MOST 1048576: true; the input reads as it did. -/
def groupAgreesUptoRow : OpenClaim := { program := "ytjfkekjeeiokmaa", sum := "f94e605ffa766b168e8a340dc90df79c3835b6a6c64c3b4bd7850b890681c3f6", func := "traveldoc/traveldoclaw08.GroupAgrees", spec := "groupAgrees", apart := false, narrowed := true }
def GroupAgreesUptoSaid : Prop := groupAgreesUptoRow.holds Try.pinned (OpenSpec.upto groupAgreesSpec)

/-- 'traveldoclaw08.GroupIsAGroup', WHERE WHAT IT READS IS OF BULK AT MOST 1048576: true; the input reads as it did. -/
def groupIsAGroupUptoRow : OpenClaim := { program := "ytjfkekjeeiokmaa", sum := "f94e605ffa766b168e8a340dc90df79c3835b6a6c64c3b4bd7850b890681c3f6", func := "traveldoc/traveldoclaw08.GroupIsAGroup", spec := "groupIsAGroup", apart := false, narrowed := true }
def GroupIsAGroupUptoSaid : Prop := groupIsAGroupUptoRow.holds Try.pinned (OpenSpec.upto groupIsAGroupSpec)

/-- 'traveldoclaw08.GroupHalves', WHERE WHAT IT READS IS OF BULK AT MOST 1048576: true; the input reads as it did. -/
def groupHalvesUptoRow : OpenClaim := { program := "ytjfkekjeeiokmaa", sum := "f94e605ffa766b168e8a340dc90df79c3835b6a6c64c3b4bd7850b890681c3f6", func := "traveldoc/traveldoclaw08.GroupHalves", spec := "groupHalves", apart := false, narrowed := true }
def GroupHalvesUptoSaid : Prop := groupHalvesUptoRow.holds Try.pinned (OpenSpec.upto groupHalvesSpec)

end Rows
end Go.Proofs.Ytjfkekjeeiokmaa
