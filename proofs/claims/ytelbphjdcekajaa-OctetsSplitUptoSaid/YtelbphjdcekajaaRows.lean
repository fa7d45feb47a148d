/-
  No cell of these rows narrows 'for every input' (looked for: loops, veiled, ifaces, maps, wideKeys, modest, calm, conditions, laid).
  DERIVED. THE GIVEN ROWS OF THIS SEAT. 5 by the template 'for every input the law returns true; each argument reads behind the call as it read before'; 0 by the template 'total and deterministic' (their statements: YtelbphjdcekajaaTotals.lean).
  GIVEN WITH THE SEED: the statements are not yours to turn. If you find one false, say at which input.
  Laid BY PROGRAM, IN A SANDBOX (cutbox-rows.mjs): the forced cells as the released guide's own fill.sh prints them over the translation 3168a5a4e48b04d5… (all of the seat's roots in one cut). By AI agents, Wed Nov 11 2026. No macro, syntax, notation, axiom, sorry.
-/
import Derived.Test.YtelbphjdcekajaaChecked
import GoSem.Claim
import GoSem.ClaimJoined
import GoSem.ClaimMapViews
import Derived.JoinedTies
import Derived.KernelRfl
namespace Go.Proofs.Ytelbphjdcekajaa
/- THE CELL 'sum', in the pinned program and in every row, IS THE sha256 OF THE DUMP (.gsa) THAT YtelbphjdcekajaaProg.lean LOADS. Nothing in Lean hashes anything: it is a label: what it is worth is what the hold of that sum in a sandbox is worth. -/
noncomputable def Try.pinned : Pinned := { name := "ytelbphjdcekajaa", sum := "3168a5a4e48b04d52ecc6aba56ac1e92d973e1b6ca697f77259ff626ae72613e", checked := Try.checked }
namespace Rows
def none {H : Type} : Left H := { results := [], args := [] }

/-- 'traveldoclaw01.OctetsHex': WHATEVER THE INPUT: true; the input reads as it did. -/
def octetsHexSpec : ChangeSpec := { name := "octetsHex", fn := fun _ => fun
  | [d1, d2] => { results := [.lit (.bool true)], args := [d1, d2] }
  | _ => none }
def octetsHexRow : OpenClaim := { program := "ytelbphjdcekajaa", sum := "3168a5a4e48b04d52ecc6aba56ac1e92d973e1b6ca697f77259ff626ae72613e", func := "traveldoc/traveldoclaw01.OctetsHex", spec := "octetsHex", apart := false }
def OctetsHexSaid : Prop := octetsHexRow.holds Try.pinned (OpenSpec.ofChange octetsHexSpec)

/-- ITS FALSE NEIGHBOUR: 'it returns false'. Refute it at one input. -/
def octetsHexWrong : ChangeSpec := { name := "octetsHex", fn := fun _ => fun
  | [d1, d2] => { results := [.lit (.bool false)], args := [d1, d2] }
  | _ => none }
def OctetsHexWrongFalsely : Prop := octetsHexRow.holds Try.pinned (OpenSpec.ofChange octetsHexWrong)

/-- 'traveldoclaw01.OctetsNumber': WHATEVER THE INPUT: true; the input reads as it did. -/
def octetsNumberSpec : ChangeSpec := { name := "octetsNumber", fn := fun _ => fun
  | [d1, d2, d3] => { results := [.lit (.bool true)], args := [d1, d2, d3] }
  | _ => none }
def octetsNumberRow : OpenClaim := { program := "ytelbphjdcekajaa", sum := "3168a5a4e48b04d52ecc6aba56ac1e92d973e1b6ca697f77259ff626ae72613e", func := "traveldoc/traveldoclaw01.OctetsNumber", spec := "octetsNumber", apart := false }
def OctetsNumberSaid : Prop := octetsNumberRow.holds Try.pinned (OpenSpec.ofChange octetsNumberSpec)

/-- ITS FALSE NEIGHBOUR: 'it returns false'. Refute it at one input. -/
def octetsNumberWrong : ChangeSpec := { name := "octetsNumber", fn := fun _ => fun
  | [d1, d2, d3] => { results := [.lit (.bool false)], args := [d1, d2, d3] }
  | _ => none }
def OctetsNumberWrongFalsely : Prop := octetsNumberRow.holds Try.pinned (OpenSpec.ofChange octetsNumberWrong)

/-- 'traveldoclaw01.OctetsXor': WHATEVER THE INPUT: true; the input reads as it did. -/
def octetsXorSpec : ChangeSpec := { name := "octetsXor", fn := fun _ => fun
  | [d1, d2] => { results := [.lit (.bool true)], args := [d1, d2] }
  | _ => none }
def octetsXorRow : OpenClaim := { program := "ytelbphjdcekajaa", sum := "3168a5a4e48b04d52ecc6aba56ac1e92d973e1b6ca697f77259ff626ae72613e", func := "traveldoc/traveldoclaw01.OctetsXor", spec := "octetsXor", apart := false }
def OctetsXorSaid : Prop := octetsXorRow.holds Try.pinned (OpenSpec.ofChange octetsXorSpec)

/-- ITS FALSE NEIGHBOUR: 'it returns false'. Refute it at one input. -/
def octetsXorWrong : ChangeSpec := { name := "octetsXor", fn := fun _ => fun
  | [d1, d2] => { results := [.lit (.bool false)], args := [d1, d2] }
  | _ => none }
def OctetsXorWrongFalsely : Prop := octetsXorRow.holds Try.pinned (OpenSpec.ofChange octetsXorWrong)

/-- 'traveldoclaw01.OctetsSplit': WHATEVER THE INPUT: true; the input reads as it did. -/
def octetsSplitSpec : ChangeSpec := { name := "octetsSplit", fn := fun _ => fun
  | [d1, d2] => { results := [.lit (.bool true)], args := [d1, d2] }
  | _ => none }
def octetsSplitRow : OpenClaim := { program := "ytelbphjdcekajaa", sum := "3168a5a4e48b04d52ecc6aba56ac1e92d973e1b6ca697f77259ff626ae72613e", func := "traveldoc/traveldoclaw01.OctetsSplit", spec := "octetsSplit", apart := false }
def OctetsSplitSaid : Prop := octetsSplitRow.holds Try.pinned (OpenSpec.ofChange octetsSplitSpec)

/-- ITS FALSE NEIGHBOUR: 'it returns false'. Refute it at one input. -/
def octetsSplitWrong : ChangeSpec := { name := "octetsSplit", fn := fun _ => fun
  | [d1, d2] => { results := [.lit (.bool false)], args := [d1, d2] }
  | _ => none }
def OctetsSplitWrongFalsely : Prop := octetsSplitRow.holds Try.pinned (OpenSpec.ofChange octetsSplitWrong)

/-- 'traveldoclaw01.OctetsReturn': WHATEVER THE INPUT: true; the input reads as it did. -/
def octetsReturnSpec : ChangeSpec := { name := "octetsReturn", fn := fun _ => fun
  | [d1, d2] => { results := [.lit (.bool true)], args := [d1, d2] }
  | _ => none }
def octetsReturnRow : OpenClaim := { program := "ytelbphjdcekajaa", sum := "3168a5a4e48b04d52ecc6aba56ac1e92d973e1b6ca697f77259ff626ae72613e", func := "traveldoc/traveldoclaw01.OctetsReturn", spec := "octetsReturn", apart := false }
def OctetsReturnSaid : Prop := octetsReturnRow.holds Try.pinned (OpenSpec.ofChange octetsReturnSpec)

/-- ITS FALSE NEIGHBOUR: 'it returns false'. Refute it at one input. -/
def octetsReturnWrong : ChangeSpec := { name := "octetsReturn", fn := fun _ => fun
  | [d1, d2] => { results := [.lit (.bool false)], args := [d1, d2] }
  | _ => none }
def OctetsReturnWrongFalsely : Prop := octetsReturnRow.holds Try.pinned (OpenSpec.ofChange octetsReturnWrong)

/- THE SECOND FORM. 'bulk': how many values and letters a reading holds, each counted each time it is reached (what is shared counts as often as it is met; a slice's spare places count too). A statement '..UptoSaid' is the law's where the arguments, and the package variables that the reading takes, are together of bulk at most 1048576: NARROWER than '..Said'. Prove '..Said' where nothing that the law and all that it calls make is longer than what came in: it says more and counts as full. Else prove '..UptoSaid'. A law counts once. -/
mutual
def uptoBulk {H : Type} : DataW H → Nat
  | .lit (.string bytes) => bytes.length + 1
  | .lit _ => 1
  | .nil => 1
  | .ptr d => uptoBulk d + 1
  | .slice elems spare => uptoBulkAll elems + uptoBulkAll spare + 1
  | .agg parts => uptoBulkAll parts + 1
  | .iface _ d => uptoBulk d + 1
  | .map entries => uptoBulkEntries entries + 1
  | .held _ => 1
def uptoBulkAll {H : Type} : List (DataW H) → Nat
  | [] => 0
  | d :: r => uptoBulk d + uptoBulkAll r
def uptoBulkEntries {H : Type} : List (Lit × DataW H) → Nat
  | [] => 0
  | x :: r => uptoBulkEntry x + uptoBulkEntries r
def uptoBulkEntry {H : Type} : Lit × DataW H → Nat
  | (.string bytes, d) => bytes.length + uptoBulk d + 1
  | (_, d) => uptoBulk d + 1
 end
def uptoSmall : (H : Type) → List (DataW H) → Bool := fun _ ds => decide (uptoBulkAll ds ≤ 1048576)
def OpenSpec.upto (s : _root_.Go.ChangeSpec) : _root_.Go.OpenSpec := { _root_.Go.OpenSpec.ofChange s with cond := some uptoSmall }

/-- 'traveldoclaw01.OctetsHex', WHERE WHAT IT READS IS OF BULK AT MOST 1048576: true; the input reads as it did. -/
def octetsHexUptoRow : OpenClaim := { program := "ytelbphjdcekajaa", sum := "3168a5a4e48b04d52ecc6aba56ac1e92d973e1b6ca697f77259ff626ae72613e", func := "traveldoc/traveldoclaw01.OctetsHex", spec := "octetsHex", apart := false, narrowed := true }
def OctetsHexUptoSaid : Prop := octetsHexUptoRow.holds Try.pinned (OpenSpec.upto octetsHexSpec)

/-- 'traveldoclaw01.OctetsNumber', WHERE WHAT IT READS IS OF BULK AT MOST 1048576: true; the input reads as it did. -/
def octetsNumberUptoRow : OpenClaim := { program := "ytelbphjdcekajaa", sum := "3168a5a4e48b04d52ecc6aba56ac1e92d973e1b6ca697f77259ff626ae72613e", func := "traveldoc/traveldoclaw01.OctetsNumber", spec := "octetsNumber", apart := false, narrowed := true }
def OctetsNumberUptoSaid : Prop := octetsNumberUptoRow.holds Try.pinned (OpenSpec.upto octetsNumberSpec)

/-- 'traveldoclaw01.OctetsXor', WHERE WHAT IT READS IS OF BULK AT MOST 1048576: true; the input reads as it did. -/
def octetsXorUptoRow : OpenClaim := { program := "ytelbphjdcekajaa", sum := "3168a5a4e48b04d52ecc6aba56ac1e92d973e1b6ca697f77259ff626ae72613e", func := "traveldoc/traveldoclaw01.OctetsXor", spec := "octetsXor", apart := false, narrowed := true }
def OctetsXorUptoSaid : Prop := octetsXorUptoRow.holds Try.pinned (OpenSpec.upto octetsXorSpec)

/-- 'traveldoclaw01.OctetsSplit', WHERE WHAT IT READS IS OF BULK AT MOST 1048576: true; the input reads as it did. -/
def octetsSplitUptoRow : OpenClaim := { program := "ytelbphjdcekajaa", sum := "3168a5a4e48b04d52ecc6aba56ac1e92d973e1b6ca697f77259ff626ae72613e", func := "traveldoc/traveldoclaw01.OctetsSplit", spec := "octetsSplit", apart := false, narrowed := true }
def OctetsSplitUptoSaid : Prop := octetsSplitUptoRow.holds Try.pinned (OpenSpec.upto octetsSplitSpec)

/-- 'traveldoclaw01.OctetsReturn', WHERE WHAT IT READS IS OF BULK AT MOST 1048576: true; the input reads as it did. -/
def octetsReturnUptoRow : OpenClaim := { program := "ytelbphjdcekajaa", sum := "3168a5a4e48b04d52ecc6aba56ac1e92d973e1b6ca697f77259ff626ae72613e", func := "traveldoc/traveldoclaw01.OctetsReturn", spec := "octetsReturn", apart := false, narrowed := true }
def OctetsReturnUptoSaid : Prop := octetsReturnUptoRow.holds Try.pinned (OpenSpec.upto octetsReturnSpec)

end Rows
end Go.Proofs.Ytelbphjdcekajaa
