/-
  No cell of these rows narrows 'for every input' (looked for: loops, veiled, ifaces, maps, wideKeys, modest, calm, conditions, laid).
  DERIVED. THE GIVEN ROWS OF THIS SEAT. 6 by the template 'for every input the law returns true; each argument reads behind the call as it read before'; 0 by the template 'total and deterministic' (their statements: YtipkaeeimohmpaaTotals.lean).
  GIVEN WITH THE SEED: the statements are not yours to turn. If you find one false, say at which input.
  Laid BY PROGRAM, IN A SANDBOX (cutbox-rows.mjs): the forced cells as the released guide's own fill.sh prints them over the translation cc3fe1051a823ace… (all of the seat's roots in one cut). By AI agents, Wed Nov 11 2026. No macro, syntax, notation, axiom, sorry.
-/
import Derived.Test.YtipkaeeimohmpaaChecked
import GoSem.Claim
import GoSem.ClaimJoined
import GoSem.ClaimMapViews
import Derived.JoinedTies
import Derived.KernelRfl
namespace Go.Proofs.Ytipkaeeimohmpaa
/- THE CELL 'sum', in the pinned program and in every row, IS THE sha256 OF THE DUMP (.gsa) THAT YtipkaeeimohmpaaProg.lean LOADS. Nothing in Lean hashes anything: it is a label: what it is worth is what the hold of that sum in a sandbox is worth. -/
noncomputable def Try.pinned : Pinned := { name := "ytipkaeeimohmpaa", sum := "cc3fe1051a823ace7680a1225fa5f4a96314c6336ad44ee6a5a599a262dbf438", checked := Try.checked }
namespace Rows
def none {H : Type} : Left H := { results := [], args := [] }

/-- 'traveldoclaw06.ModesPads': WHATEVER THE INPUT: true; the input reads as it did. -/
def modesPadsSpec : ChangeSpec := { name := "modesPads", fn := fun _ => fun
  | [d] => { results := [.lit (.bool true)], args := [d] }
  | _ => none }
def modesPadsRow : OpenClaim := { program := "ytipkaeeimohmpaa", sum := "cc3fe1051a823ace7680a1225fa5f4a96314c6336ad44ee6a5a599a262dbf438", func := "traveldoc/traveldoclaw06.ModesPads", spec := "modesPads", unfollowed := true, recurses := true, apart := false }
def ModesPadsSaid : Prop := modesPadsRow.holds Try.pinned (OpenSpec.ofChange modesPadsSpec)

/-- ITS FALSE NEIGHBOUR: 'it returns false'. Refute it at one input. -/
def modesPadsWrong : ChangeSpec := { name := "modesPads", fn := fun _ => fun
  | [d] => { results := [.lit (.bool false)], args := [d] }
  | _ => none }
def ModesPadsWrongFalsely : Prop := modesPadsRow.holds Try.pinned (OpenSpec.ofChange modesPadsWrong)

/-- 'traveldoclaw06.ModesSeals': WHATEVER THE INPUT: true; the input reads as it did. -/
def modesSealsSpec : ChangeSpec := { name := "modesSeals", fn := fun _ => fun
  | [d1, d2, d3] => { results := [.lit (.bool true)], args := [d1, d2, d3] }
  | _ => none }
def modesSealsRow : OpenClaim := { program := "ytipkaeeimohmpaa", sum := "cc3fe1051a823ace7680a1225fa5f4a96314c6336ad44ee6a5a599a262dbf438", func := "traveldoc/traveldoclaw06.ModesSeals", spec := "modesSeals", unfollowed := true, recurses := true, apart := false }
def ModesSealsSaid : Prop := modesSealsRow.holds Try.pinned (OpenSpec.ofChange modesSealsSpec)

/-- ITS FALSE NEIGHBOUR: 'it returns false'. Refute it at one input. -/
def modesSealsWrong : ChangeSpec := { name := "modesSeals", fn := fun _ => fun
  | [d1, d2, d3] => { results := [.lit (.bool false)], args := [d1, d2, d3] }
  | _ => none }
def ModesSealsWrongFalsely : Prop := modesSealsRow.holds Try.pinned (OpenSpec.ofChange modesSealsWrong)

/-- 'traveldoclaw06.ModesSealsMade': WHATEVER THE INPUT: true; the input reads as it did. -/
def modesSealsMadeSpec : ChangeSpec := { name := "modesSealsMade", fn := fun _ => fun
  | [d1, d2, d3] => { results := [.lit (.bool true)], args := [d1, d2, d3] }
  | _ => none }
def modesSealsMadeRow : OpenClaim := { program := "ytipkaeeimohmpaa", sum := "cc3fe1051a823ace7680a1225fa5f4a96314c6336ad44ee6a5a599a262dbf438", func := "traveldoc/traveldoclaw06.ModesSealsMade", spec := "modesSealsMade", unfollowed := true, recurses := true, apart := false }
def ModesSealsMadeSaid : Prop := modesSealsMadeRow.holds Try.pinned (OpenSpec.ofChange modesSealsMadeSpec)

/-- ITS FALSE NEIGHBOUR: 'it returns false'. Refute it at one input. -/
def modesSealsMadeWrong : ChangeSpec := { name := "modesSealsMade", fn := fun _ => fun
  | [d1, d2, d3] => { results := [.lit (.bool false)], args := [d1, d2, d3] }
  | _ => none }
def ModesSealsMadeWrongFalsely : Prop := modesSealsMadeRow.holds Try.pinned (OpenSpec.ofChange modesSealsMadeWrong)

/-- 'traveldoclaw06.ModesCodes': WHATEVER THE INPUT: true; the input reads as it did. -/
def modesCodesSpec : ChangeSpec := { name := "modesCodes", fn := fun _ => fun
  | [d1, d2] => { results := [.lit (.bool true)], args := [d1, d2] }
  | _ => none }
def modesCodesRow : OpenClaim := { program := "ytipkaeeimohmpaa", sum := "cc3fe1051a823ace7680a1225fa5f4a96314c6336ad44ee6a5a599a262dbf438", func := "traveldoc/traveldoclaw06.ModesCodes", spec := "modesCodes", unfollowed := true, recurses := true, apart := false }
def ModesCodesSaid : Prop := modesCodesRow.holds Try.pinned (OpenSpec.ofChange modesCodesSpec)

/-- ITS FALSE NEIGHBOUR: 'it returns false'. Refute it at one input. -/
def modesCodesWrong : ChangeSpec := { name := "modesCodes", fn := fun _ => fun
  | [d1, d2] => { results := [.lit (.bool false)], args := [d1, d2] }
  | _ => none }
def ModesCodesWrongFalsely : Prop := modesCodesRow.holds Try.pinned (OpenSpec.ofChange modesCodesWrong)

/-- 'traveldoclaw06.ModesChains': WHATEVER THE INPUT: true; the input reads as it did. -/
def modesChainsSpec : ChangeSpec := { name := "modesChains", fn := fun _ => fun
  | [d1, d2, d3] => { results := [.lit (.bool true)], args := [d1, d2, d3] }
  | _ => none }
def modesChainsRow : OpenClaim := { program := "ytipkaeeimohmpaa", sum := "cc3fe1051a823ace7680a1225fa5f4a96314c6336ad44ee6a5a599a262dbf438", func := "traveldoc/traveldoclaw06.ModesChains", spec := "modesChains", unfollowed := true, recurses := true, apart := false }
def ModesChainsSaid : Prop := modesChainsRow.holds Try.pinned (OpenSpec.ofChange modesChainsSpec)

/-- ITS FALSE NEIGHBOUR: 'it returns false'. Refute it at one input. -/
def modesChainsWrong : ChangeSpec := { name := "modesChains", fn := fun _ => fun
  | [d1, d2, d3] => { results := [.lit (.bool false)], args := [d1, d2, d3] }
  | _ => none }
def ModesChainsWrongFalsely : Prop := modesChainsRow.holds Try.pinned (OpenSpec.ofChange modesChainsWrong)

/-- 'traveldoclaw06.ModesStandard': WHATEVER THE INPUT: true; the input reads as it did. -/
def modesStandardSpec : ChangeSpec := { name := "modesStandard", fn := fun _ => fun
  | [] => { results := [.lit (.bool true)], args := [] }
  | _ => none }
def modesStandardRow : OpenClaim := { program := "ytipkaeeimohmpaa", sum := "cc3fe1051a823ace7680a1225fa5f4a96314c6336ad44ee6a5a599a262dbf438", func := "traveldoc/traveldoclaw06.ModesStandard", spec := "modesStandard", unfollowed := true, recurses := true, apart := false }
def ModesStandardSaid : Prop := modesStandardRow.holds Try.pinned (OpenSpec.ofChange modesStandardSpec)

/-- ITS FALSE NEIGHBOUR: 'it returns false'. Refute it at one input. -/
def modesStandardWrong : ChangeSpec := { name := "modesStandard", fn := fun _ => fun
  | [] => { results := [.lit (.bool false)], args := [] }
  | _ => none }
def ModesStandardWrongFalsely : Prop := modesStandardRow.holds Try.pinned (OpenSpec.ofChange modesStandardWrong)

/- THE SECOND FORM. 'bulk': how many values and letters a reading holds, each counted each time it is reached (what is shared counts as often as it is met; a slice's spare places count too). A statement '..UptoSaid' is the law's where the arguments, and the package variables that the reading takes, are together of bulk at most 1048576: NARROWER than '..Said'. Prove '..Said' where nothing that the law and all that it calls make is longer than what came in: it says more and counts as full. Else prove '..UptoSaid'. A law counts once. -/
mutual
def uptoBulk {H : Type} : DataW H → Nat
  | .lit (.string bytes) => bytes.length + 1
  | .lit _ => 1
  | .nil => 1
  | .ptr d => uptoBulk d + 1
  | .slice elems spare => uptoBulkAll elems + uptoBulkAll spare + 1
  | .agg parts => uptoBulkAll parts + 1
  | .iface _ d => uptoBulk d + 1
  | .map entries => uptoBulkEntries entries + 1
  | .held _ => 1
def uptoBulkAll {H : Type} : List (DataW H) → Nat
  | [] => 0
  | d :: r => uptoBulk d + uptoBulkAll r
def uptoBulkEntries {H : Type} : List (Lit × DataW H) → Nat
  | [] => 0
  | x :: r => uptoBulkEntry x + uptoBulkEntries r
def uptoBulkEntry {H : Type} : Lit × DataW H → Nat
  | (.string bytes, d) => bytes.length + uptoBulk d + 1
  | (_, d) => uptoBulk d + 1
 end
def uptoSmall : (H : Type) → List (DataW H) → Bool := fun _ ds => decide (uptoBulkAll ds ≤ 1048576)
def OpenSpec.upto (s : _root_.Go.ChangeSpec) : _root_.Go.OpenSpec := { _root_.Go.OpenSpec.ofChange s with cond := some uptoSmall }

/-- 'traveldoclaw06.ModesPads', WHERE WHAT IT READS IS OF BULK AT MOST 1048576: true; the input reads as it did. -/
def modesPadsUptoRow : OpenClaim := { program := "ytipkaeeimohmpaa", sum := "cc3fe1051a823ace7680a1225fa5f4a96314c6336ad44ee6a5a599a262dbf438", func := "traveldoc/traveldoclaw06.ModesPads", spec := "modesPads", unfollowed := true, recurses := true, apart := false, narrowed := true }
def ModesPadsUptoSaid : Prop := modesPadsUptoRow.holds Try.pinned (OpenSpec.upto modesPadsSpec)

/-- 'traveldoclaw06.ModesSeals', WHERE WHAT IT READS IS OF BULK AT MOST 1048576: true; the input reads as it did. -/
def modesSealsUptoRow : OpenClaim := { program := "ytipkaeeimohmpaa", sum := "cc3fe1051a823ace7680a1225fa5f4a96314c6336ad44ee6a5a599a262dbf438", func := "traveldoc/traveldoclaw06.ModesSeals", spec := "modesSeals", unfollowed := true, recurses := true, apart := false, narrowed := true }
def ModesSealsUptoSaid : Prop := modesSealsUptoRow.holds Try.pinned (OpenSpec.upto modesSealsSpec)

/-- 'traveldoclaw06.ModesSealsMade', WHERE WHAT IT READS IS OF BULK AT MOST 1048576: true; the input reads as it did. -/
def modesSealsMadeUptoRow : OpenClaim := { program := "ytipkaeeimohmpaa", sum := "cc3fe1051a823ace7680a1225fa5f4a96314c6336ad44ee6a5a599a262dbf438", func := "traveldoc/traveldoclaw06.ModesSealsMade", spec := "modesSealsMade", unfollowed := true, recurses := true, apart := false, narrowed := true }
def ModesSealsMadeUptoSaid : Prop := modesSealsMadeUptoRow.holds Try.pinned (OpenSpec.upto modesSealsMadeSpec)

/-- 'traveldoclaw06.ModesCodes', WHERE WHAT IT READS IS OF BULK AT MOST 1048576: true; the input reads as it did. -/
def modesCodesUptoRow : OpenClaim := { program := "ytipkaeeimohmpaa", sum := "cc3fe1051a823ace7680a1225fa5f4a96314c6336ad44ee6a5a599a262dbf438", func := "traveldoc/traveldoclaw06.ModesCodes", spec := "modesCodes", unfollowed := true, recurses := true, apart := false, narrowed := true }
def ModesCodesUptoSaid : Prop := modesCodesUptoRow.holds Try.pinned (OpenSpec.upto modesCodesSpec)

/-- 'traveldoclaw06.ModesChains', WHERE WHAT IT READS IS OF BULK AT MOST 1048576: true; the input reads as it did. -/
def modesChainsUptoRow : OpenClaim := { program := "ytipkaeeimohmpaa", sum := "cc3fe1051a823ace7680a1225fa5f4a96314c6336ad44ee6a5a599a262dbf438", func := "traveldoc/traveldoclaw06.ModesChains", spec := "modesChains", unfollowed := true, recurses := true, apart := false, narrowed := true }
def ModesChainsUptoSaid : Prop := modesChainsUptoRow.holds Try.pinned (OpenSpec.upto modesChainsSpec)

/-- 'traveldoclaw06.ModesStandard', WHERE WHAT IT READS IS OF BULK AT MOST 1048576: true; the input reads as it did. -/
def modesStandardUptoRow : OpenClaim := { program := "ytipkaeeimohmpaa", sum := "cc3fe1051a823ace7680a1225fa5f4a96314c6336ad44ee6a5a599a262dbf438", func := "traveldoc/traveldoclaw06.ModesStandard", spec := "modesStandard", unfollowed := true, recurses := true, apart := false, narrowed := true }
def ModesStandardUptoSaid : Prop := modesStandardUptoRow.holds Try.pinned (OpenSpec.upto modesStandardSpec)

end Rows
end Go.Proofs.Ytipkaeeimohmpaa
