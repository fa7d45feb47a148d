/-
  NARROWER THAN 'FOR EVERY INPUT', by the rows' own cells (each row's printed sentence says how): SecurityinfoExact: laid · SecurityinfoMade: laid · SecurityinfoReturns: laid · SecurityinfoChooses: laid · SecurityinfoTells: laid.
  DERIVED. THE GIVEN ROWS OF THIS SEAT. 5 by the template 'for every input the law returns true; each argument reads behind the call as it read before'; 0 by the template 'total and deterministic' (their statements: YtcapbojjceeapaaDoorTotals.lean).
  GIVEN WITH THE SEED: the statements are not yours to turn. If you find one false, say at which input.
  Laid BY PROGRAM, IN A SANDBOX (cutbox-rows.mjs): the forced cells as the released guide's own fill.sh prints them over the translation 63f25cc891ac3f72… (all of the seat's roots in one cut). By AI agents, Wed Nov 11 2026. No macro, syntax, notation, axiom, sorry.
-/
import Derived.Test.YtcapbojjceeapaaDoorChecked
import GoSem.Claim
import GoSem.ClaimJoined
import GoSem.ClaimMapViews
import Derived.JoinedTies
import Derived.KernelRfl
namespace Go.Proofs.YtcapbojjceeapaaDoor
/- THE CELL 'sum', in the pinned program and in every row, IS THE sha256 OF THE DUMP (.gsa) THAT YtcapbojjceeapaaDoorProg.lean LOADS. Nothing in Lean hashes anything: it is a label: what it is worth is what the hold of that sum in a sandbox is worth. -/
noncomputable def Tryd.pinned : Pinned := { name := "ytcapbojjceeapaadoor", sum := "63f25cc891ac3f7205ff85a523342eefd4b10eca0c6f86eadc5d937a6cac9708", checked := Tryd.checked }
namespace Rows
def none {H : Type} : Left H := { results := [], args := [] }

/- WHAT THE LISTED PACKAGE-LEVEL VARIABLES READ AS WHEN THE CALL BEGINS. Each datum BY PROGRAM (the guide's laid-datum.mjs) off the statement by which the dump's own 'gosem.cut.vars' lays the variable. In a bare row this is a premise. The card (YtcapbojjceeapaaDoorCards.lean) ties it to the program's text. -/
def laid_traveldoc_securityinfo_identifiers {H : Type} : DataW H := .agg [.agg [.lit (.int .u8 4), .lit (.int .u8 0), .lit (.int .u8 127), .lit (.int .u8 0), .lit (.int .u8 7), .lit (.int .u8 2), .lit (.int .u8 2), .lit (.int .u8 4), .lit (.int .u8 1)], .agg [.lit (.int .u8 4), .lit (.int .u8 0), .lit (.int .u8 127), .lit (.int .u8 0), .lit (.int .u8 7), .lit (.int .u8 2), .lit (.int .u8 2), .lit (.int .u8 4), .lit (.int .u8 2)], .agg [.lit (.int .u8 4), .lit (.int .u8 0), .lit (.int .u8 127), .lit (.int .u8 0), .lit (.int .u8 7), .lit (.int .u8 2), .lit (.int .u8 2), .lit (.int .u8 3), .lit (.int .u8 1)], .agg [.lit (.int .u8 4), .lit (.int .u8 0), .lit (.int .u8 127), .lit (.int .u8 0), .lit (.int .u8 7), .lit (.int .u8 2), .lit (.int .u8 2), .lit (.int .u8 2), .lit (.int .u8 1)], .agg [.lit (.int .u8 4), .lit (.int .u8 0), .lit (.int .u8 127), .lit (.int .u8 0), .lit (.int .u8 7), .lit (.int .u8 2), .lit (.int .u8 2), .lit (.int .u8 5), .lit (.int .u8 1)]]

/-- 'traveldoclaw14.SecurityinfoExact': WHATEVER THE INPUT: true; the input reads as it did. -/
def securityinfoExactSpec : ChangeSpec := { name := "securityinfoExact", fn := fun _ => fun
  | [d1, d2] => { results := [.lit (.bool true)], args := [d1, d2] }
  | _ => none }
def securityinfoExactRow : OpenClaim := { program := "ytcapbojjceeapaadoor", sum := "63f25cc891ac3f7205ff85a523342eefd4b10eca0c6f86eadc5d937a6cac9708", func := "traveldoc/traveldoclaw14.SecurityinfoExact", spec := "securityinfoExact", recurses := true, named := ["traveldoc/securityinfo.identifiers"], apart := false, laid := [("traveldoc/securityinfo.identifiers", laid_traveldoc_securityinfo_identifiers)] }
def SecurityinfoExactSaid : Prop := securityinfoExactRow.holds Tryd.pinned (OpenSpec.ofChange securityinfoExactSpec)

/-- ITS FALSE NEIGHBOUR: 'it returns false'. Refute it at one input. -/
def securityinfoExactWrong : ChangeSpec := { name := "securityinfoExact", fn := fun _ => fun
  | [d1, d2] => { results := [.lit (.bool false)], args := [d1, d2] }
  | _ => none }
def SecurityinfoExactWrongFalsely : Prop := securityinfoExactRow.holds Tryd.pinned (OpenSpec.ofChange securityinfoExactWrong)

/-- 'traveldoclaw14.SecurityinfoMade': WHATEVER THE INPUT: true; the input reads as it did. -/
def securityinfoMadeSpec : ChangeSpec := { name := "securityinfoMade", fn := fun _ => fun
  | [d] => { results := [.lit (.bool true)], args := [d] }
  | _ => none }
def securityinfoMadeRow : OpenClaim := { program := "ytcapbojjceeapaadoor", sum := "63f25cc891ac3f7205ff85a523342eefd4b10eca0c6f86eadc5d937a6cac9708", func := "traveldoc/traveldoclaw14.SecurityinfoMade", spec := "securityinfoMade", recurses := true, named := ["traveldoc/securityinfo.identifiers"], apart := false, laid := [("traveldoc/securityinfo.identifiers", laid_traveldoc_securityinfo_identifiers)] }
def SecurityinfoMadeSaid : Prop := securityinfoMadeRow.holds Tryd.pinned (OpenSpec.ofChange securityinfoMadeSpec)

/-- ITS FALSE NEIGHBOUR: 'it returns false'. Refute it at one input. -/
def securityinfoMadeWrong : ChangeSpec := { name := "securityinfoMade", fn := fun _ => fun
  | [d] => { results := [.lit (.bool false)], args := [d] }
  | _ => none }
def SecurityinfoMadeWrongFalsely : Prop := securityinfoMadeRow.holds Tryd.pinned (OpenSpec.ofChange securityinfoMadeWrong)

/-- 'traveldoclaw14.SecurityinfoReturns': WHATEVER THE INPUT: true; the input reads as it did. -/
def securityinfoReturnsSpec : ChangeSpec := { name := "securityinfoReturns", fn := fun _ => fun
  | [d] => { results := [.lit (.bool true)], args := [d] }
  | _ => none }
def securityinfoReturnsRow : OpenClaim := { program := "ytcapbojjceeapaadoor", sum := "63f25cc891ac3f7205ff85a523342eefd4b10eca0c6f86eadc5d937a6cac9708", func := "traveldoc/traveldoclaw14.SecurityinfoReturns", spec := "securityinfoReturns", recurses := true, named := ["traveldoc/securityinfo.identifiers"], apart := false, laid := [("traveldoc/securityinfo.identifiers", laid_traveldoc_securityinfo_identifiers)] }
def SecurityinfoReturnsSaid : Prop := securityinfoReturnsRow.holds Tryd.pinned (OpenSpec.ofChange securityinfoReturnsSpec)

/-- ITS FALSE NEIGHBOUR: 'it returns false'. Refute it at one input. -/
def securityinfoReturnsWrong : ChangeSpec := { name := "securityinfoReturns", fn := fun _ => fun
  | [d] => { results := [.lit (.bool false)], args := [d] }
  | _ => none }
def SecurityinfoReturnsWrongFalsely : Prop := securityinfoReturnsRow.holds Tryd.pinned (OpenSpec.ofChange securityinfoReturnsWrong)

/-- 'traveldoclaw14.SecurityinfoChooses': WHATEVER THE INPUT: true; the input reads as it did. -/
def securityinfoChoosesSpec : ChangeSpec := { name := "securityinfoChooses", fn := fun _ => fun
  | [d1, d2, d3] => { results := [.lit (.bool true)], args := [d1, d2, d3] }
  | _ => none }
def securityinfoChoosesRow : OpenClaim := { program := "ytcapbojjceeapaadoor", sum := "63f25cc891ac3f7205ff85a523342eefd4b10eca0c6f86eadc5d937a6cac9708", func := "traveldoc/traveldoclaw14.SecurityinfoChooses", spec := "securityinfoChooses", recurses := true, named := ["traveldoc/securityinfo.identifiers"], apart := false, laid := [("traveldoc/securityinfo.identifiers", laid_traveldoc_securityinfo_identifiers)] }
def SecurityinfoChoosesSaid : Prop := securityinfoChoosesRow.holds Tryd.pinned (OpenSpec.ofChange securityinfoChoosesSpec)

/-- ITS FALSE NEIGHBOUR: 'it returns false'. Refute it at one input. -/
def securityinfoChoosesWrong : ChangeSpec := { name := "securityinfoChooses", fn := fun _ => fun
  | [d1, d2, d3] => { results := [.lit (.bool false)], args := [d1, d2, d3] }
  | _ => none }
def SecurityinfoChoosesWrongFalsely : Prop := securityinfoChoosesRow.holds Tryd.pinned (OpenSpec.ofChange securityinfoChoosesWrong)

/-- 'traveldoclaw14.SecurityinfoTells': WHATEVER THE INPUT: true; the input reads as it did. -/
def securityinfoTellsSpec : ChangeSpec := { name := "securityinfoTells", fn := fun _ => fun
  | [d1, d2] => { results := [.lit (.bool true)], args := [d1, d2] }
  | _ => none }
def securityinfoTellsRow : OpenClaim := { program := "ytcapbojjceeapaadoor", sum := "63f25cc891ac3f7205ff85a523342eefd4b10eca0c6f86eadc5d937a6cac9708", func := "traveldoc/traveldoclaw14.SecurityinfoTells", spec := "securityinfoTells", recurses := true, named := ["traveldoc/securityinfo.identifiers"], apart := false, laid := [("traveldoc/securityinfo.identifiers", laid_traveldoc_securityinfo_identifiers)] }
def SecurityinfoTellsSaid : Prop := securityinfoTellsRow.holds Tryd.pinned (OpenSpec.ofChange securityinfoTellsSpec)

/-- ITS FALSE NEIGHBOUR: 'it returns false'. Refute it at one input. -/
def securityinfoTellsWrong : ChangeSpec := { name := "securityinfoTells", fn := fun _ => fun
  | [d1, d2] => { results := [.lit (.bool false)], args := [d1, d2] }
  | _ => none }
def SecurityinfoTellsWrongFalsely : Prop := securityinfoTellsRow.holds Tryd.pinned (OpenSpec.ofChange securityinfoTellsWrong)

/- THE SECOND FORM. 'bulk': how many values and letters a reading holds, each counted each time it is reached (what is shared counts as often as it is met; a slice's spare places count too). A statement '..UptoSaid' is the law's where the arguments, and the package variables that the reading takes, are together of bulk at most 1048576: NARROWER than '..Said'. Prove '..Said' where nothing that the law and all that it calls make is longer than what came in: it says more and counts as full. Else prove '..UptoSaid'. A law counts once. -/
mutual
def uptoBulk {H : Type} : DataW H → Nat
  | .lit (.string bytes) => bytes.length + 1
  | .lit _ => 1
  | .nil => 1
  | .ptr d => uptoBulk d + 1
  | .slice elems spare => uptoBulkAll elems + uptoBulkAll spare + 1
  | .agg parts => uptoBulkAll parts + 1
  | .iface _ d => uptoBulk d + 1
  | .map entries => uptoBulkEntries entries + 1
  | .held _ => 1
def uptoBulkAll {H : Type} : List (DataW H) → Nat
  | [] => 0
  | d :: r => uptoBulk d + uptoBulkAll r
def uptoBulkEntries {H : Type} : List (Lit × DataW H) → Nat
  | [] => 0
  | x :: r => uptoBulkEntry x + uptoBulkEntries r
def uptoBulkEntry {H : Type} : Lit × DataW H → Nat
  | (.string bytes, d) => bytes.length + uptoBulk d + 1
  | (_, d) => uptoBulk d + 1
 end
def uptoSmall : (H : Type) → List (DataW H) → Bool := fun _ ds => decide (uptoBulkAll ds ≤ 1048576)
def OpenSpec.upto (s : _root_.Go.ChangeSpec) : _root_.Go.OpenSpec := { _root_.Go.OpenSpec.ofChange s with cond := some uptoSmall }

/-- 'traveldoclaw14.SecurityinfoExact', WHERE WHAT IT READS IS OF BULK AT MOST 1048576: true; the input reads as it did. -/
def securityinfoExactUptoRow : OpenClaim := { program := "ytcapbojjceeapaadoor", sum := "63f25cc891ac3f7205ff85a523342eefd4b10eca0c6f86eadc5d937a6cac9708", func := "traveldoc/traveldoclaw14.SecurityinfoExact", spec := "securityinfoExact", recurses := true, named := ["traveldoc/securityinfo.identifiers"], apart := false, laid := [("traveldoc/securityinfo.identifiers", laid_traveldoc_securityinfo_identifiers)], narrowed := true }
def SecurityinfoExactUptoSaid : Prop := securityinfoExactUptoRow.holds Tryd.pinned (OpenSpec.upto securityinfoExactSpec)

/-- 'traveldoclaw14.SecurityinfoMade', WHERE WHAT IT READS IS OF BULK AT MOST 1048576: true; the input reads as it did. -/
def securityinfoMadeUptoRow : OpenClaim := { program := "ytcapbojjceeapaadoor", sum := "63f25cc891ac3f7205ff85a523342eefd4b10eca0c6f86eadc5d937a6cac9708", func := "traveldoc/traveldoclaw14.SecurityinfoMade", spec := "securityinfoMade", recurses := true, named := ["traveldoc/securityinfo.identifiers"], apart := false, laid := [("traveldoc/securityinfo.identifiers", laid_traveldoc_securityinfo_identifiers)], narrowed := true }
def SecurityinfoMadeUptoSaid : Prop := securityinfoMadeUptoRow.holds Tryd.pinned (OpenSpec.upto securityinfoMadeSpec)

/-- 'traveldoclaw14.SecurityinfoReturns', WHERE WHAT IT READS IS OF BULK AT MOST 1048576: true; the input reads as it did. -/
def securityinfoReturnsUptoRow : OpenClaim := { program := "ytcapbojjceeapaadoor", sum := "63f25cc891ac3f7205ff85a523342eefd4b10eca0c6f86eadc5d937a6cac9708", func := "traveldoc/traveldoclaw14.SecurityinfoReturns", spec := "securityinfoReturns", recurses := true, named := ["traveldoc/securityinfo.identifiers"], apart := false, laid := [("traveldoc/securityinfo.identifiers", laid_traveldoc_securityinfo_identifiers)], narrowed := true }
def SecurityinfoReturnsUptoSaid : Prop := securityinfoReturnsUptoRow.holds Tryd.pinned (OpenSpec.upto securityinfoReturnsSpec)

/-- 'traveldoclaw14.SecurityinfoChooses', WHERE WHAT IT READS IS OF BULK AT MOST 1048576: true; the input reads as it did. -/
def securityinfoChoosesUptoRow : OpenClaim := { program := "ytcapbojjceeapaadoor", sum := "63f25cc891ac3f7205ff85a523342eefd4b10eca0c6f86eadc5d937a6cac9708", func := "traveldoc/traveldoclaw14.SecurityinfoChooses", spec := "securityinfoChooses", recurses := true, named := ["traveldoc/securityinfo.identifiers"], apart := false, laid := [("traveldoc/securityinfo.identifiers", laid_traveldoc_securityinfo_identifiers)], narrowed := true }
def SecurityinfoChoosesUptoSaid : Prop := securityinfoChoosesUptoRow.holds Tryd.pinned (OpenSpec.upto securityinfoChoosesSpec)

/-- 'traveldoclaw14.SecurityinfoTells', WHERE WHAT IT READS IS OF BULK AT MOST 1048576: true; the input reads as it did. -/
def securityinfoTellsUptoRow : OpenClaim := { program := "ytcapbojjceeapaadoor", sum := "63f25cc891ac3f7205ff85a523342eefd4b10eca0c6f86eadc5d937a6cac9708", func := "traveldoc/traveldoclaw14.SecurityinfoTells", spec := "securityinfoTells", recurses := true, named := ["traveldoc/securityinfo.identifiers"], apart := false, laid := [("traveldoc/securityinfo.identifiers", laid_traveldoc_securityinfo_identifiers)], narrowed := true }
def SecurityinfoTellsUptoSaid : Prop := securityinfoTellsUptoRow.holds Tryd.pinned (OpenSpec.upto securityinfoTellsSpec)

end Rows
end Go.Proofs.YtcapbojjceeapaaDoor
