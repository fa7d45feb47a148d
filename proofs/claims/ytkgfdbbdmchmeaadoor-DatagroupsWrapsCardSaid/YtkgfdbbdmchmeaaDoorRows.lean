/-
  NARROWER THAN 'FOR EVERY INPUT', by the rows' own cells (each row's printed sentence says how): DatagroupsNumbers: laid · DatagroupsWraps: laid.
  DERIVED. THE GIVEN ROWS OF THIS SEAT. 2 by the template 'for every input the law returns true; each argument reads behind the call as it read before'; 0 by the template 'total and deterministic' (their statements: YtkgfdbbdmchmeaaDoorTotals.lean).
  GIVEN WITH THE SEED: the statements are not yours to turn. If you find one false, say at which input.
  Laid BY PROGRAM, IN A SANDBOX (cutbox-rows.mjs): the forced cells as the released guide's own fill.sh prints them over the translation d60a1d97b0be2773… (all of the seat's roots in one cut). By AI agents, Wed Nov 11 2026. No macro, syntax, notation, axiom, sorry.
-/
import Derived.Test.YtkgfdbbdmchmeaaDoorChecked
import GoSem.Claim
import GoSem.ClaimJoined
import GoSem.ClaimMapViews
import Derived.JoinedTies
import Derived.KernelRfl
namespace Go.Proofs.YtkgfdbbdmchmeaaDoor
/- THE CELL 'sum', in the pinned program and in every row, IS THE sha256 OF THE DUMP (.gsa) THAT YtkgfdbbdmchmeaaDoorProg.lean LOADS. Nothing in Lean hashes anything: it is a label: what it is worth is what the hold of that sum in a sandbox is worth. -/
noncomputable def Tryd.pinned : Pinned := { name := "ytkgfdbbdmchmeaadoor", sum := "d60a1d97b0be2773517e333c778efeff6a6db7da8fd75d304699cf0b65c9fa72", checked := Tryd.checked }
namespace Rows
def none {H : Type} : Left H := { results := [], args := [] }

/- WHAT THE LISTED PACKAGE-LEVEL VARIABLES READ AS WHEN THE CALL BEGINS. Each datum BY PROGRAM (the guide's laid-datum.mjs) off the statement by which the dump's own 'gosem.cut.vars' lays the variable. In a bare row this is a premise. The card (YtkgfdbbdmchmeaaDoorCards.lean) ties it to the program's text. -/
def laid_traveldoc_traveldocref15_tags {H : Type} : DataW H := .agg [.lit (.int .i64 97), .lit (.int .i64 117), .lit (.int .i64 99), .lit (.int .i64 118), .lit (.int .i64 101), .lit (.int .i64 102), .lit (.int .i64 103), .lit (.int .i64 104), .lit (.int .i64 105), .lit (.int .i64 106), .lit (.int .i64 107), .lit (.int .i64 108), .lit (.int .i64 109), .lit (.int .i64 110), .lit (.int .i64 111), .lit (.int .i64 112), .lit (.int .i64 96), .lit (.int .i64 119)]
def laid_traveldoc_datagroups_tags {H : Type} : DataW H := .agg [.lit (.int .i64 97), .lit (.int .i64 117), .lit (.int .i64 99), .lit (.int .i64 118), .lit (.int .i64 101), .lit (.int .i64 102), .lit (.int .i64 103), .lit (.int .i64 104), .lit (.int .i64 105), .lit (.int .i64 106), .lit (.int .i64 107), .lit (.int .i64 108), .lit (.int .i64 109), .lit (.int .i64 110), .lit (.int .i64 111), .lit (.int .i64 112), .lit (.int .i64 96), .lit (.int .i64 119)]

/-- 'traveldoclaw15.DatagroupsNumbers': WHATEVER THE INPUT: true; the input reads as it did. -/
def datagroupsNumbersSpec : ChangeSpec := { name := "datagroupsNumbers", fn := fun _ => fun
  | [d] => { results := [.lit (.bool true)], args := [d] }
  | _ => none }
def datagroupsNumbersRow : OpenClaim := { program := "ytkgfdbbdmchmeaadoor", sum := "d60a1d97b0be2773517e333c778efeff6a6db7da8fd75d304699cf0b65c9fa72", func := "traveldoc/traveldoclaw15.DatagroupsNumbers", spec := "datagroupsNumbers", recurses := true, named := ["traveldoc/datagroups.tags", "traveldoc/traveldocref15.tags"], apart := false, laid := [("traveldoc/traveldocref15.tags", laid_traveldoc_traveldocref15_tags), ("traveldoc/datagroups.tags", laid_traveldoc_datagroups_tags)] }
def DatagroupsNumbersSaid : Prop := datagroupsNumbersRow.holds Tryd.pinned (OpenSpec.ofChange datagroupsNumbersSpec)

/-- ITS FALSE NEIGHBOUR: 'it returns false'. Refute it at one input. -/
def datagroupsNumbersWrong : ChangeSpec := { name := "datagroupsNumbers", fn := fun _ => fun
  | [d] => { results := [.lit (.bool false)], args := [d] }
  | _ => none }
def DatagroupsNumbersWrongFalsely : Prop := datagroupsNumbersRow.holds Tryd.pinned (OpenSpec.ofChange datagroupsNumbersWrong)

/-- 'traveldoclaw15.DatagroupsWraps': WHATEVER THE INPUT: true; the input reads as it did. -/
def datagroupsWrapsSpec : ChangeSpec := { name := "datagroupsWraps", fn := fun _ => fun
  | [d1, d2, d3] => { results := [.lit (.bool true)], args := [d1, d2, d3] }
  | _ => none }
def datagroupsWrapsRow : OpenClaim := { program := "ytkgfdbbdmchmeaadoor", sum := "d60a1d97b0be2773517e333c778efeff6a6db7da8fd75d304699cf0b65c9fa72", func := "traveldoc/traveldoclaw15.DatagroupsWraps", spec := "datagroupsWraps", recurses := true, named := ["traveldoc/datagroups.tags", "traveldoc/traveldocref15.tags"], apart := false, laid := [("traveldoc/traveldocref15.tags", laid_traveldoc_traveldocref15_tags), ("traveldoc/datagroups.tags", laid_traveldoc_datagroups_tags)] }
def DatagroupsWrapsSaid : Prop := datagroupsWrapsRow.holds Tryd.pinned (OpenSpec.ofChange datagroupsWrapsSpec)

/-- ITS FALSE NEIGHBOUR: 'it returns false'. Refute it at one input. -/
def datagroupsWrapsWrong : ChangeSpec := { name := "datagroupsWraps", fn := fun _ => fun
  | [d1, d2, d3] => { results := [.lit (.bool false)], args := [d1, d2, d3] }
  | _ => none }
def DatagroupsWrapsWrongFalsely : Prop := datagroupsWrapsRow.holds Tryd.pinned (OpenSpec.ofChange datagroupsWrapsWrong)

/- THE SECOND FORM. 'bulk': how many values and letters a reading holds, each counted each time it is reached (what is shared counts as often as it is met; a slice's spare places count too). A statement '..UptoSaid' is the law's where the arguments, and the package variables that the reading takes, are together of bulk at most 1048576: NARROWER than '..Said'. Prove '..Said' where nothing that the law and all that it calls make is longer than what came in: it says more and counts as full. Else prove '..UptoSaid'. A law counts once. -/
mutual
def uptoBulk {H : Type} : DataW H → Nat
  | .lit (.string bytes) => bytes.length + 1
  | .lit _ => 1
  | .nil => 1
  | .ptr d => uptoBulk d + 1
  | .slice elems spare => uptoBulkAll elems + uptoBulkAll spare + 1
  | .agg parts => uptoBulkAll parts + 1
  | .iface _ d => uptoBulk d + 1
  | .map entries => uptoBulkEntries entries + 1
  | .held _ => 1
def uptoBulkAll {H : Type} : List (DataW H) → Nat
  | [] => 0
  | d :: r => uptoBulk d + uptoBulkAll r
def uptoBulkEntries {H : Type} : List (Lit × DataW H) → Nat
  | [] => 0
  | x :: r => uptoBulkEntry x + uptoBulkEntries r
def uptoBulkEntry {H : Type} : Lit × DataW H → Nat
  | (.string bytes, d) => bytes.length + uptoBulk d + 1
  | (_, d) => uptoBulk d + 1
 end
def uptoSmall : (H : Type) → List (DataW H) → Bool := fun _ ds => decide (uptoBulkAll ds ≤ 1048576)
def OpenSpec.upto (s : _root_.Go.ChangeSpec) : _root_.Go.OpenSpec := { _root_.Go.OpenSpec.ofChange s with cond := some uptoSmall }

/-- 'traveldoclaw15.DatagroupsNumbers', WHERE WHAT IT READS IS OF BULK AT MOST 1048576: true; the input reads as it did. -/
def datagroupsNumbersUptoRow : OpenClaim := { program := "ytkgfdbbdmchmeaadoor", sum := "d60a1d97b0be2773517e333c778efeff6a6db7da8fd75d304699cf0b65c9fa72", func := "traveldoc/traveldoclaw15.DatagroupsNumbers", spec := "datagroupsNumbers", recurses := true, named := ["traveldoc/datagroups.tags", "traveldoc/traveldocref15.tags"], apart := false, laid := [("traveldoc/traveldocref15.tags", laid_traveldoc_traveldocref15_tags), ("traveldoc/datagroups.tags", laid_traveldoc_datagroups_tags)], narrowed := true }
def DatagroupsNumbersUptoSaid : Prop := datagroupsNumbersUptoRow.holds Tryd.pinned (OpenSpec.upto datagroupsNumbersSpec)

/-- 'traveldoclaw15.DatagroupsWraps', WHERE WHAT IT READS IS OF BULK AT MOST 1048576: true; the input reads as it did. -/
def datagroupsWrapsUptoRow : OpenClaim := { program := "ytkgfdbbdmchmeaadoor", sum := "d60a1d97b0be2773517e333c778efeff6a6db7da8fd75d304699cf0b65c9fa72", func := "traveldoc/traveldoclaw15.DatagroupsWraps", spec := "datagroupsWraps", recurses := true, named := ["traveldoc/datagroups.tags", "traveldoc/traveldocref15.tags"], apart := false, laid := [("traveldoc/traveldocref15.tags", laid_traveldoc_traveldocref15_tags), ("traveldoc/datagroups.tags", laid_traveldoc_datagroups_tags)], narrowed := true }
def DatagroupsWrapsUptoSaid : Prop := datagroupsWrapsUptoRow.holds Tryd.pinned (OpenSpec.upto datagroupsWrapsSpec)

end Rows
end Go.Proofs.YtkgfdbbdmchmeaaDoor
