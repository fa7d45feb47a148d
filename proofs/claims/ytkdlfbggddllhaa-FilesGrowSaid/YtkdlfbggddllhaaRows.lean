/-
  No cell of these rows narrows 'for every input' (looked for: loops, veiled, ifaces, maps, wideKeys, modest, calm, conditions, laid).
  DERIVED. THE GIVEN ROWS OF THIS SEAT. 5 by the template 'for every input the law returns true; each argument reads behind the call as it read before'; 0 by the template 'total and deterministic' (their statements: YtkdlfbggddllhaaTotals.lean).
  GIVEN WITH THE SEED: the statements are not yours to turn. If you find one false, say at which input.
  Laid BY PROGRAM, IN A SANDBOX (cutbox-rows.mjs): the forced cells as the released guide's own fill.sh prints them over the translation 03e412585162aaa1… (all of the seat's roots in one cut). By AI agents, Wed Nov 11 2026. No macro, syntax, notation, axiom, sorry.
-/
import Derived.Test.YtkdlfbggddllhaaChecked
import GoSem.Claim
import GoSem.ClaimJoined
import GoSem.ClaimMapViews
import Derived.JoinedTies
import Derived.KernelRfl
namespace Go.Proofs.Ytkdlfbggddllhaa
/- THE CELL 'sum', in the pinned program and in every row, IS THE sha256 OF THE DUMP (.gsa) THAT YtkdlfbggddllhaaProg.lean LOADS. Nothing in Lean hashes anything: it is a label: what it is worth is what the hold of that sum in a sandbox is worth. -/
noncomputable def Try.pinned : Pinned := { name := "ytkdlfbggddllhaa", sum := "03e412585162aaa1ec903dcd4a65c7910cc4b5673decda82c76955caa4885280", checked := Try.checked }
namespace Rows
def none {H : Type} : Left H := { results := [], args := [] }

/-- 'traveldoclaw17.FilesExact': WHATEVER THE INPUT: true; the input reads as it did. -/
def filesExactSpec : ChangeSpec := { name := "filesExact", fn := fun _ => fun
  | [d1, d2] => { results := [.lit (.bool true)], args := [d1, d2] }
  | _ => none }
def filesExactRow : OpenClaim := { program := "ytkdlfbggddllhaa", sum := "03e412585162aaa1ec903dcd4a65c7910cc4b5673decda82c76955caa4885280", func := "traveldoc/traveldoclaw17.FilesExact", spec := "filesExact", unfollowed := true, recurses := true, apart := false }
def FilesExactSaid : Prop := filesExactRow.holds Try.pinned (OpenSpec.ofChange filesExactSpec)

/-- ITS FALSE NEIGHBOUR: 'it returns false'. Refute it at one input. -/
def filesExactWrong : ChangeSpec := { name := "filesExact", fn := fun _ => fun
  | [d1, d2] => { results := [.lit (.bool false)], args := [d1, d2] }
  | _ => none }
def FilesExactWrongFalsely : Prop := filesExactRow.holds Try.pinned (OpenSpec.ofChange filesExactWrong)

/-- 'traveldoclaw17.FilesMade': WHATEVER THE INPUT: true; the input reads as it did. -/
def filesMadeSpec : ChangeSpec := { name := "filesMade", fn := fun _ => fun
  | [d1, d2, d3] => { results := [.lit (.bool true)], args := [d1, d2, d3] }
  | _ => none }
def filesMadeRow : OpenClaim := { program := "ytkdlfbggddllhaa", sum := "03e412585162aaa1ec903dcd4a65c7910cc4b5673decda82c76955caa4885280", func := "traveldoc/traveldoclaw17.FilesMade", spec := "filesMade", unfollowed := true, recurses := true, apart := false }
def FilesMadeSaid : Prop := filesMadeRow.holds Try.pinned (OpenSpec.ofChange filesMadeSpec)

/-- ITS FALSE NEIGHBOUR: 'it returns false'. Refute it at one input. -/
def filesMadeWrong : ChangeSpec := { name := "filesMade", fn := fun _ => fun
  | [d1, d2, d3] => { results := [.lit (.bool false)], args := [d1, d2, d3] }
  | _ => none }
def FilesMadeWrongFalsely : Prop := filesMadeRow.holds Try.pinned (OpenSpec.ofChange filesMadeWrong)

/-- 'traveldoclaw17.FilesAllows': WHATEVER THE INPUT: true; the input reads as it did. -/
def filesAllowsSpec : ChangeSpec := { name := "filesAllows", fn := fun _ => fun
  | [d1, d2] => { results := [.lit (.bool true)], args := [d1, d2] }
  | _ => none }
def filesAllowsRow : OpenClaim := { program := "ytkdlfbggddllhaa", sum := "03e412585162aaa1ec903dcd4a65c7910cc4b5673decda82c76955caa4885280", func := "traveldoc/traveldoclaw17.FilesAllows", spec := "filesAllows", unfollowed := true, recurses := true, apart := false }
def FilesAllowsSaid : Prop := filesAllowsRow.holds Try.pinned (OpenSpec.ofChange filesAllowsSpec)

/-- ITS FALSE NEIGHBOUR: 'it returns false'. Refute it at one input. -/
def filesAllowsWrong : ChangeSpec := { name := "filesAllows", fn := fun _ => fun
  | [d1, d2] => { results := [.lit (.bool false)], args := [d1, d2] }
  | _ => none }
def FilesAllowsWrongFalsely : Prop := filesAllowsRow.holds Try.pinned (OpenSpec.ofChange filesAllowsWrong)

/-- 'traveldoclaw17.FilesGrow': WHATEVER THE INPUT: true; the input reads as it did. -/
def filesGrowSpec : ChangeSpec := { name := "filesGrow", fn := fun _ => fun
  | [d] => { results := [.lit (.bool true)], args := [d] }
  | _ => none }
def filesGrowRow : OpenClaim := { program := "ytkdlfbggddllhaa", sum := "03e412585162aaa1ec903dcd4a65c7910cc4b5673decda82c76955caa4885280", func := "traveldoc/traveldoclaw17.FilesGrow", spec := "filesGrow", unfollowed := true, recurses := true, apart := false }
def FilesGrowSaid : Prop := filesGrowRow.holds Try.pinned (OpenSpec.ofChange filesGrowSpec)

/-- ITS FALSE NEIGHBOUR: 'it returns false'. Refute it at one input. -/
def filesGrowWrong : ChangeSpec := { name := "filesGrow", fn := fun _ => fun
  | [d] => { results := [.lit (.bool false)], args := [d] }
  | _ => none }
def FilesGrowWrongFalsely : Prop := filesGrowRow.holds Try.pinned (OpenSpec.ofChange filesGrowWrong)

/-- 'traveldoclaw17.FilesReads': WHATEVER THE INPUT: true; the input reads as it did. -/
def filesReadsSpec : ChangeSpec := { name := "filesReads", fn := fun _ => fun
  | [d1, d2] => { results := [.lit (.bool true)], args := [d1, d2] }
  | _ => none }
def filesReadsRow : OpenClaim := { program := "ytkdlfbggddllhaa", sum := "03e412585162aaa1ec903dcd4a65c7910cc4b5673decda82c76955caa4885280", func := "traveldoc/traveldoclaw17.FilesReads", spec := "filesReads", unfollowed := true, recurses := true, apart := false }
def FilesReadsSaid : Prop := filesReadsRow.holds Try.pinned (OpenSpec.ofChange filesReadsSpec)

/-- ITS FALSE NEIGHBOUR: 'it returns false'. Refute it at one input. -/
def filesReadsWrong : ChangeSpec := { name := "filesReads", fn := fun _ => fun
  | [d1, d2] => { results := [.lit (.bool false)], args := [d1, d2] }
  | _ => none }
def FilesReadsWrongFalsely : Prop := filesReadsRow.holds Try.pinned (OpenSpec.ofChange filesReadsWrong)

/- THE SECOND FORM. 'bulk': how many values and letters a reading holds, each counted each time it is reached (what is shared counts as often as it is met; a slice's spare places count too). A statement '..UptoSaid' is the law's where the arguments, and the package variables that the reading takes, are together of bulk at most 1048576: NARROWER than '..Said'. Prove '..Said' where nothing that the law and all that it calls make is longer than what came in: it says more and counts as full. Else prove '..UptoSaid'. A law counts once. -/
mutual
def uptoBulk {H : Type} : DataW H → Nat
  | .lit (.string bytes) => bytes.length + 1
  | .lit _ => 1
  | .nil => 1
  | .ptr d => uptoBulk d + 1
  | .slice elems spare => uptoBulkAll elems + uptoBulkAll spare + 1
  | .agg parts => uptoBulkAll parts + 1
  | .iface _ d => uptoBulk d + 1
  | .map entries => uptoBulkEntries entries + 1
  | .held _ => 1
def uptoBulkAll {H : Type} : List (DataW H) → Nat
  | [] => 0
  | d :: r => uptoBulk d + uptoBulkAll r
def uptoBulkEntries {H : Type} : List (Lit × DataW H) → Nat
  | [] => 0
  | x :: r => uptoBulkEntry x + uptoBulkEntries r
def uptoBulkEntry {H : Type} : Lit × DataW H → Nat
  | (.string bytes, d) => bytes.length + uptoBulk d + 1
  | (_, d) => uptoBulk d + 1
 end
def uptoSmall : (H : Type) → List (DataW H) → Bool := fun _ ds => decide (uptoBulkAll ds ≤ 1048576)
def OpenSpec.upto (s : _root_.Go.ChangeSpec) : _root_.Go.OpenSpec := { _root_.Go.OpenSpec.ofChange s with cond := some uptoSmall }

/-- 'traveldoclaw17.FilesExact', WHERE WHAT IT READS IS OF BULK AT MOST 1048576: true; the input reads as it did. -/
def filesExactUptoRow : OpenClaim := { program := "ytkdlfbggddllhaa", sum := "03e412585162aaa1ec903dcd4a65c7910cc4b5673decda82c76955caa4885280", func := "traveldoc/traveldoclaw17.FilesExact", spec := "filesExact", unfollowed := true, recurses := true, apart := false, narrowed := true }
def FilesExactUptoSaid : Prop := filesExactUptoRow.holds Try.pinned (OpenSpec.upto filesExactSpec)

/-- 'traveldoclaw17.FilesMade', WHERE WHAT IT READS IS OF BULK AT MOST 1048576: true; the input reads as it did. -/
def filesMadeUptoRow : OpenClaim := { program := "ytkdlfbggddllhaa", sum := "03e412585162aaa1ec903dcd4a65c7910cc4b5673decda82c76955caa4885280", func := "traveldoc/traveldoclaw17.FilesMade", spec := "filesMade", unfollowed := true, recurses := true, apart := false, narrowed := true }
def FilesMadeUptoSaid : Prop := filesMadeUptoRow.holds Try.pinned (OpenSpec.upto filesMadeSpec)

/-- 'traveldoclaw17.FilesAllows', WHERE WHAT IT READS IS OF BULK AT MOST 1048576: true; the input reads as it did. -/
def filesAllowsUptoRow : OpenClaim := { program := "ytkdlfbggddllhaa", sum := "03e412585162aaa1ec903dcd4a65c7910cc4b5673decda82c76955caa4885280", func := "traveldoc/traveldoclaw17.FilesAllows", spec := "filesAllows", unfollowed := true, recurses := true, apart := false, narrowed := true }
def FilesAllowsUptoSaid : Prop := filesAllowsUptoRow.holds Try.pinned (OpenSpec.upto filesAllowsSpec)

/-- 'traveldoclaw17.FilesGrow', WHERE WHAT IT READS IS OF BULK AT MOST 1048576: true; the input reads as it did. -/
def filesGrowUptoRow : OpenClaim := { program := "ytkdlfbggddllhaa", sum := "03e412585162aaa1ec903dcd4a65c7910cc4b5673decda82c76955caa4885280", func := "traveldoc/traveldoclaw17.FilesGrow", spec := "filesGrow", unfollowed := true, recurses := true, apart := false, narrowed := true }
def FilesGrowUptoSaid : Prop := filesGrowUptoRow.holds Try.pinned (OpenSpec.upto filesGrowSpec)

/-- 'traveldoclaw17.FilesReads', WHERE WHAT IT READS IS OF BULK AT MOST 1048576: true; the input reads as it did. -/
def filesReadsUptoRow : OpenClaim := { program := "ytkdlfbggddllhaa", sum := "03e412585162aaa1ec903dcd4a65c7910cc4b5673decda82c76955caa4885280", func := "traveldoc/traveldoclaw17.FilesReads", spec := "filesReads", unfollowed := true, recurses := true, apart := false, narrowed := true }
def FilesReadsUptoSaid : Prop := filesReadsUptoRow.holds Try.pinned (OpenSpec.upto filesReadsSpec)

end Rows
end Go.Proofs.Ytkdlfbggddllhaa
