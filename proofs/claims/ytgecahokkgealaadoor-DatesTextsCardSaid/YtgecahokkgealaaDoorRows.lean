/-
  NARROWER THAN 'FOR EVERY INPUT', by the rows' own cells (each row's printed sentence says how): DatesDays: laid · DatesTexts: laid · DatesMonths: laid · DatesAges: laid · DatesFollow: laid · DatesWindow: laid · DatesMonthsAdd: laid · DatesAgesGrow: laid.
  DERIVED. THE GIVEN ROWS OF THIS SEAT. 8 by the template 'for every input the law returns true; each argument reads behind the call as it read before'; 0 by the template 'total and deterministic' (their statements: YtgecahokkgealaaDoorTotals.lean).
  GIVEN WITH THE SEED: the statements are not yours to turn. If you find one false, say at which input.
  Laid BY PROGRAM, IN A SANDBOX (cutbox-rows.mjs): the forced cells as the released guide's own fill.sh prints them over the translation 3f8857a34b0691ea… (all of the seat's roots in one cut). By AI agents, Wed Nov 11 2026. No macro, syntax, notation, axiom, sorry.
-/
import Derived.Test.YtgecahokkgealaaDoorChecked
import GoSem.Claim
import GoSem.ClaimJoined
import GoSem.ClaimMapViews
import Derived.JoinedTies
import Derived.KernelRfl
namespace Go.Proofs.YtgecahokkgealaaDoor
/- THE CELL 'sum', in the pinned program and in every row, IS THE sha256 OF THE DUMP (.gsa) THAT YtgecahokkgealaaDoorProg.lean LOADS. Nothing in Lean hashes anything: it is a label: what it is worth is what the hold of that sum in a sandbox is worth. -/
noncomputable def Tryd.pinned : Pinned := { name := "ytgecahokkgealaadoor", sum := "3f8857a34b0691eafd36bb8ec6689df3b37165ab197793c06ad5a07e9a70c67d", checked := Tryd.checked }
namespace Rows
def none {H : Type} : Left H := { results := [], args := [] }

/- WHAT THE LISTED PACKAGE-LEVEL VARIABLES READ AS WHEN THE CALL BEGINS. Each datum BY PROGRAM (the guide's laid-datum.mjs) off the statement by which the dump's own 'gosem.cut.vars' lays the variable. In a bare row this is a premise. The card (YtgecahokkgealaaDoorCards.lean) ties it to the program's text. -/
def laid_traveldoc_dates_monthLengths {H : Type} : DataW H := .agg [.lit (.int .i64 31), .lit (.int .i64 28), .lit (.int .i64 31), .lit (.int .i64 30), .lit (.int .i64 31), .lit (.int .i64 30), .lit (.int .i64 31), .lit (.int .i64 31), .lit (.int .i64 30), .lit (.int .i64 31), .lit (.int .i64 30), .lit (.int .i64 31)]

/-- 'traveldoclaw03.DatesDays': WHATEVER THE INPUT: true; the input reads as it did. -/
def datesDaysSpec : ChangeSpec := { name := "datesDays", fn := fun _ => fun
  | [d1, d2] => { results := [.lit (.bool true)], args := [d1, d2] }
  | _ => none }
def datesDaysRow : OpenClaim := { program := "ytgecahokkgealaadoor", sum := "3f8857a34b0691eafd36bb8ec6689df3b37165ab197793c06ad5a07e9a70c67d", func := "traveldoc/traveldoclaw03.DatesDays", spec := "datesDays", named := ["traveldoc/dates.monthLengths"], apart := false, laid := [("traveldoc/dates.monthLengths", laid_traveldoc_dates_monthLengths)] }
def DatesDaysSaid : Prop := datesDaysRow.holds Tryd.pinned (OpenSpec.ofChange datesDaysSpec)

/-- ITS FALSE NEIGHBOUR: 'it returns false'. Refute it at one input. -/
def datesDaysWrong : ChangeSpec := { name := "datesDays", fn := fun _ => fun
  | [d1, d2] => { results := [.lit (.bool false)], args := [d1, d2] }
  | _ => none }
def DatesDaysWrongFalsely : Prop := datesDaysRow.holds Tryd.pinned (OpenSpec.ofChange datesDaysWrong)

/-- 'traveldoclaw03.DatesTexts': WHATEVER THE INPUT: true; the input reads as it did. -/
def datesTextsSpec : ChangeSpec := { name := "datesTexts", fn := fun _ => fun
  | [d1, d2, d3] => { results := [.lit (.bool true)], args := [d1, d2, d3] }
  | _ => none }
def datesTextsRow : OpenClaim := { program := "ytgecahokkgealaadoor", sum := "3f8857a34b0691eafd36bb8ec6689df3b37165ab197793c06ad5a07e9a70c67d", func := "traveldoc/traveldoclaw03.DatesTexts", spec := "datesTexts", named := ["traveldoc/dates.monthLengths"], apart := false, laid := [("traveldoc/dates.monthLengths", laid_traveldoc_dates_monthLengths)] }
def DatesTextsSaid : Prop := datesTextsRow.holds Tryd.pinned (OpenSpec.ofChange datesTextsSpec)

/-- ITS FALSE NEIGHBOUR: 'it returns false'. Refute it at one input. -/
def datesTextsWrong : ChangeSpec := { name := "datesTexts", fn := fun _ => fun
  | [d1, d2, d3] => { results := [.lit (.bool false)], args := [d1, d2, d3] }
  | _ => none }
def DatesTextsWrongFalsely : Prop := datesTextsRow.holds Tryd.pinned (OpenSpec.ofChange datesTextsWrong)

/-- 'traveldoclaw03.DatesMonths': WHATEVER THE INPUT: true; the input reads as it did. -/
def datesMonthsSpec : ChangeSpec := { name := "datesMonths", fn := fun _ => fun
  | [d1, d2] => { results := [.lit (.bool true)], args := [d1, d2] }
  | _ => none }
def datesMonthsRow : OpenClaim := { program := "ytgecahokkgealaadoor", sum := "3f8857a34b0691eafd36bb8ec6689df3b37165ab197793c06ad5a07e9a70c67d", func := "traveldoc/traveldoclaw03.DatesMonths", spec := "datesMonths", named := ["traveldoc/dates.monthLengths"], apart := false, laid := [("traveldoc/dates.monthLengths", laid_traveldoc_dates_monthLengths)] }
def DatesMonthsSaid : Prop := datesMonthsRow.holds Tryd.pinned (OpenSpec.ofChange datesMonthsSpec)

/-- ITS FALSE NEIGHBOUR: 'it returns false'. Refute it at one input. -/
def datesMonthsWrong : ChangeSpec := { name := "datesMonths", fn := fun _ => fun
  | [d1, d2] => { results := [.lit (.bool false)], args := [d1, d2] }
  | _ => none }
def DatesMonthsWrongFalsely : Prop := datesMonthsRow.holds Tryd.pinned (OpenSpec.ofChange datesMonthsWrong)

/-- 'traveldoclaw03.DatesAges': WHATEVER THE INPUT: true; the input reads as it did. -/
def datesAgesSpec : ChangeSpec := { name := "datesAges", fn := fun _ => fun
  | [d1, d2] => { results := [.lit (.bool true)], args := [d1, d2] }
  | _ => none }
def datesAgesRow : OpenClaim := { program := "ytgecahokkgealaadoor", sum := "3f8857a34b0691eafd36bb8ec6689df3b37165ab197793c06ad5a07e9a70c67d", func := "traveldoc/traveldoclaw03.DatesAges", spec := "datesAges", named := ["traveldoc/dates.monthLengths"], apart := false, laid := [("traveldoc/dates.monthLengths", laid_traveldoc_dates_monthLengths)] }
def DatesAgesSaid : Prop := datesAgesRow.holds Tryd.pinned (OpenSpec.ofChange datesAgesSpec)

/-- ITS FALSE NEIGHBOUR: 'it returns false'. Refute it at one input. -/
def datesAgesWrong : ChangeSpec := { name := "datesAges", fn := fun _ => fun
  | [d1, d2] => { results := [.lit (.bool false)], args := [d1, d2] }
  | _ => none }
def DatesAgesWrongFalsely : Prop := datesAgesRow.holds Tryd.pinned (OpenSpec.ofChange datesAgesWrong)

/-- 'traveldoclaw03.DatesFollow': WHATEVER THE INPUT: true; the input reads as it did. -/
def datesFollowSpec : ChangeSpec := { name := "datesFollow", fn := fun _ => fun
  | [d] => { results := [.lit (.bool true)], args := [d] }
  | _ => none }
def datesFollowRow : OpenClaim := { program := "ytgecahokkgealaadoor", sum := "3f8857a34b0691eafd36bb8ec6689df3b37165ab197793c06ad5a07e9a70c67d", func := "traveldoc/traveldoclaw03.DatesFollow", spec := "datesFollow", named := ["traveldoc/dates.monthLengths"], apart := false, laid := [("traveldoc/dates.monthLengths", laid_traveldoc_dates_monthLengths)] }
def DatesFollowSaid : Prop := datesFollowRow.holds Tryd.pinned (OpenSpec.ofChange datesFollowSpec)

/-- ITS FALSE NEIGHBOUR: 'it returns false'. Refute it at one input. -/
def datesFollowWrong : ChangeSpec := { name := "datesFollow", fn := fun _ => fun
  | [d] => { results := [.lit (.bool false)], args := [d] }
  | _ => none }
def DatesFollowWrongFalsely : Prop := datesFollowRow.holds Tryd.pinned (OpenSpec.ofChange datesFollowWrong)

/-- 'traveldoclaw03.DatesWindow': WHATEVER THE INPUT: true; the input reads as it did. -/
def datesWindowSpec : ChangeSpec := { name := "datesWindow", fn := fun _ => fun
  | [d1, d2] => { results := [.lit (.bool true)], args := [d1, d2] }
  | _ => none }
def datesWindowRow : OpenClaim := { program := "ytgecahokkgealaadoor", sum := "3f8857a34b0691eafd36bb8ec6689df3b37165ab197793c06ad5a07e9a70c67d", func := "traveldoc/traveldoclaw03.DatesWindow", spec := "datesWindow", named := ["traveldoc/dates.monthLengths"], apart := false, laid := [("traveldoc/dates.monthLengths", laid_traveldoc_dates_monthLengths)] }
def DatesWindowSaid : Prop := datesWindowRow.holds Tryd.pinned (OpenSpec.ofChange datesWindowSpec)

/-- ITS FALSE NEIGHBOUR: 'it returns false'. Refute it at one input. -/
def datesWindowWrong : ChangeSpec := { name := "datesWindow", fn := fun _ => fun
  | [d1, d2] => { results := [.lit (.bool false)], args := [d1, d2] }
  | _ => none }
def DatesWindowWrongFalsely : Prop := datesWindowRow.holds Tryd.pinned (OpenSpec.ofChange datesWindowWrong)

/-- 'traveldoclaw03.DatesMonthsAdd': WHATEVER THE INPUT: true; the input reads as it did. -/
def datesMonthsAddSpec : ChangeSpec := { name := "datesMonthsAdd", fn := fun _ => fun
  | [d1, d2] => { results := [.lit (.bool true)], args := [d1, d2] }
  | _ => none }
def datesMonthsAddRow : OpenClaim := { program := "ytgecahokkgealaadoor", sum := "3f8857a34b0691eafd36bb8ec6689df3b37165ab197793c06ad5a07e9a70c67d", func := "traveldoc/traveldoclaw03.DatesMonthsAdd", spec := "datesMonthsAdd", named := ["traveldoc/dates.monthLengths"], apart := false, laid := [("traveldoc/dates.monthLengths", laid_traveldoc_dates_monthLengths)] }
def DatesMonthsAddSaid : Prop := datesMonthsAddRow.holds Tryd.pinned (OpenSpec.ofChange datesMonthsAddSpec)

/-- ITS FALSE NEIGHBOUR: 'it returns false'. Refute it at one input. -/
def datesMonthsAddWrong : ChangeSpec := { name := "datesMonthsAdd", fn := fun _ => fun
  | [d1, d2] => { results := [.lit (.bool false)], args := [d1, d2] }
  | _ => none }
def DatesMonthsAddWrongFalsely : Prop := datesMonthsAddRow.holds Tryd.pinned (OpenSpec.ofChange datesMonthsAddWrong)

/-- 'traveldoclaw03.DatesAgesGrow': WHATEVER THE INPUT: true; the input reads as it did. -/
def datesAgesGrowSpec : ChangeSpec := { name := "datesAgesGrow", fn := fun _ => fun
  | [d1, d2] => { results := [.lit (.bool true)], args := [d1, d2] }
  | _ => none }
def datesAgesGrowRow : OpenClaim := { program := "ytgecahokkgealaadoor", sum := "3f8857a34b0691eafd36bb8ec6689df3b37165ab197793c06ad5a07e9a70c67d", func := "traveldoc/traveldoclaw03.DatesAgesGrow", spec := "datesAgesGrow", named := ["traveldoc/dates.monthLengths"], apart := false, laid := [("traveldoc/dates.monthLengths", laid_traveldoc_dates_monthLengths)] }
def DatesAgesGrowSaid : Prop := datesAgesGrowRow.holds Tryd.pinned (OpenSpec.ofChange datesAgesGrowSpec)

/-- ITS FALSE NEIGHBOUR: 'it returns false'. Refute it at one input. -/
def datesAgesGrowWrong : ChangeSpec := { name := "datesAgesGrow", fn := fun _ => fun
  | [d1, d2] => { results := [.lit (.bool false)], args := [d1, d2] }
  | _ => none }
def DatesAgesGrowWrongFalsely : Prop := datesAgesGrowRow.holds Tryd.pinned (OpenSpec.ofChange datesAgesGrowWrong)

/- THE SECOND FORM. 'bulk': how many values and letters a reading holds, each counted each time it is reached (what is shared counts as often as it is met; a slice's spare places count too). A statement '..UptoSaid' is the law's where the arguments, and the package variables that the reading takes, are together of bulk at most 1048576: NARROWER than '..Said'. Prove '..Said' where nothing that the law and all that it calls make is longer than what came in: it says more and counts as full. Else prove '..UptoSaid'. A law counts once. -/
mutual
def uptoBulk {H : Type} : DataW H → Nat
  | .lit (.string bytes) => bytes.length + 1
  | .lit _ => 1
  | .nil => 1
  | .ptr d => uptoBulk d + 1
  | .slice elems spare => uptoBulkAll elems + uptoBulkAll spare + 1
  | .agg parts => uptoBulkAll parts + 1
  | .iface _ d => uptoBulk d + 1
  | .map entries => uptoBulkEntries entries + 1
  | .held _ => 1
def uptoBulkAll {H : Type} : List (DataW H) → Nat
  | [] => 0
  | d :: r => uptoBulk d + uptoBulkAll r
def uptoBulkEntries {H : Type} : List (Lit × DataW H) → Nat
  | [] => 0
  | x :: r => uptoBulkEntry x + uptoBulkEntries r
def uptoBulkEntry {H : Type} : Lit × DataW H → Nat
  | (.string bytes, d) => bytes.length + uptoBulk d + 1
  | (_, d) => uptoBulk d + 1
 end
def uptoSmall : (H : Type) → List (DataW H) → Bool := fun _ ds => decide (uptoBulkAll ds ≤ 1048576)
def OpenSpec.upto (s : _root_.Go.ChangeSpec) : _root_.Go.OpenSpec := { _root_.Go.OpenSpec.ofChange s with cond := some uptoSmall }

/-- 'traveldoclaw03.DatesDays', WHERE WHAT IT READS IS OF BULK AT MOST 1048576: true; the input reads as it did. -/
def datesDaysUptoRow : OpenClaim := { program := "ytgecahokkgealaadoor", sum := "3f8857a34b0691eafd36bb8ec6689df3b37165ab197793c06ad5a07e9a70c67d", func := "traveldoc/traveldoclaw03.DatesDays", spec := "datesDays", named := ["traveldoc/dates.monthLengths"], apart := false, laid := [("traveldoc/dates.monthLengths", laid_traveldoc_dates_monthLengths)], narrowed := true }
def DatesDaysUptoSaid : Prop := datesDaysUptoRow.holds Tryd.pinned (OpenSpec.upto datesDaysSpec)

/-- 'traveldoclaw03.DatesTexts', WHERE WHAT IT READS IS OF BULK AT MOST 1048576: true; the input reads as it did. -/
def datesTextsUptoRow : OpenClaim := { program := "ytgecahokkgealaadoor", sum := "3f8857a34b0691eafd36bb8ec6689df3b37165ab197793c06ad5a07e9a70c67d", func := "traveldoc/traveldoclaw03.DatesTexts", spec := "datesTexts", named := ["traveldoc/dates.monthLengths"], apart := false, laid := [("traveldoc/dates.monthLengths", laid_traveldoc_dates_monthLengths)], narrowed := true }
def DatesTextsUptoSaid : Prop := datesTextsUptoRow.holds Tryd.pinned (OpenSpec.upto datesTextsSpec)

/-- 'traveldoclaw03.DatesMonths', WHERE WHAT IT READS IS OF BULK AT MOST 1048576: true; the input reads as it did. -/
def datesMonthsUptoRow : OpenClaim := { program := "ytgecahokkgealaadoor", sum := "3f8857a34b0691eafd36bb8ec6689df3b37165ab197793c06ad5a07e9a70c67d", func := "traveldoc/traveldoclaw03.DatesMonths", spec := "datesMonths", named := ["traveldoc/dates.monthLengths"], apart := false, laid := [("traveldoc/dates.monthLengths", laid_traveldoc_dates_monthLengths)], narrowed := true }
def DatesMonthsUptoSaid : Prop := datesMonthsUptoRow.holds Tryd.pinned (OpenSpec.upto datesMonthsSpec)

/-- 'traveldoclaw03.DatesAges', WHERE WHAT IT READS IS OF BULK AT MOST 1048576: true; the input reads as it did. -/
def datesAgesUptoRow : OpenClaim := { program := "ytgecahokkgealaadoor", sum := "3f8857a34b0691eafd36bb8ec6689df3b37165ab197793c06ad5a07e9a70c67d", func := "traveldoc/traveldoclaw03.DatesAges", spec := "datesAges", named := ["traveldoc/dates.monthLengths"], apart := false, laid := [("traveldoc/dates.monthLengths", laid_traveldoc_dates_monthLengths)], narrowed := true }
def DatesAgesUptoSaid : Prop := datesAgesUptoRow.holds Tryd.pinned (OpenSpec.upto datesAgesSpec)

/-- 'traveldoclaw03.DatesFollow', WHERE WHAT IT READS IS OF BULK AT MOST 1048576: true; the input reads as it did. -/
def datesFollowUptoRow : OpenClaim := { program := "ytgecahokkgealaadoor", sum := "3f8857a34b0691eafd36bb8ec6689df3b37165ab197793c06ad5a07e9a70c67d", func := "traveldoc/traveldoclaw03.DatesFollow", spec := "datesFollow", named := ["traveldoc/dates.monthLengths"], apart := false, laid := [("traveldoc/dates.monthLengths", laid_traveldoc_dates_monthLengths)], narrowed := true }
def DatesFollowUptoSaid : Prop := datesFollowUptoRow.holds Tryd.pinned (OpenSpec.upto datesFollowSpec)

/-- 'traveldoclaw03.DatesWindow', WHERE WHAT IT READS IS OF BULK AT MOST 1048576: true; the input reads as it did. -/
def datesWindowUptoRow : OpenClaim := { program := "ytgecahokkgealaadoor", sum := "3f8857a34b0691eafd36bb8ec6689df3b37165ab197793c06ad5a07e9a70c67d", func := "traveldoc/traveldoclaw03.DatesWindow", spec := "datesWindow", named := ["traveldoc/dates.monthLengths"], apart := false, laid := [("traveldoc/dates.monthLengths", laid_traveldoc_dates_monthLengths)], narrowed := true }
def DatesWindowUptoSaid : Prop := datesWindowUptoRow.holds Tryd.pinned (OpenSpec.upto datesWindowSpec)

/-- 'traveldoclaw03.DatesMonthsAdd', WHERE WHAT IT READS IS OF BULK AT MOST 1048576: true; the input reads as it did. -/
def datesMonthsAddUptoRow : OpenClaim := { program := "ytgecahokkgealaadoor", sum := "3f8857a34b0691eafd36bb8ec6689df3b37165ab197793c06ad5a07e9a70c67d", func := "traveldoc/traveldoclaw03.DatesMonthsAdd", spec := "datesMonthsAdd", named := ["traveldoc/dates.monthLengths"], apart := false, laid := [("traveldoc/dates.monthLengths", laid_traveldoc_dates_monthLengths)], narrowed := true }
def DatesMonthsAddUptoSaid : Prop := datesMonthsAddUptoRow.holds Tryd.pinned (OpenSpec.upto datesMonthsAddSpec)

/-- 'traveldoclaw03.DatesAgesGrow', WHERE WHAT IT READS IS OF BULK AT MOST 1048576: true; the input reads as it did. -/
def datesAgesGrowUptoRow : OpenClaim := { program := "ytgecahokkgealaadoor", sum := "3f8857a34b0691eafd36bb8ec6689df3b37165ab197793c06ad5a07e9a70c67d", func := "traveldoc/traveldoclaw03.DatesAgesGrow", spec := "datesAgesGrow", named := ["traveldoc/dates.monthLengths"], apart := false, laid := [("traveldoc/dates.monthLengths", laid_traveldoc_dates_monthLengths)], narrowed := true }
def DatesAgesGrowUptoSaid : Prop := datesAgesGrowUptoRow.holds Tryd.pinned (OpenSpec.upto datesAgesGrowSpec)

end Rows
end Go.Proofs.YtgecahokkgealaaDoor
