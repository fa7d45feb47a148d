/-
  DERIVED. GIVEN WITH THE SEED: THE CARDS: each row of YtkgfdbbdmchmeaaDoorRows.lean that lists a variable, with what it lists TIED to the program's text (the seventh form; the later family's looks); each row that meets fmt, with fmt's text TOLD by the authors' own Lean function (tested against real Go, not proved from fmt's source: count such statements apart). THE CARD IS WHAT COUNTS. Prove the row's statement (the work); the ties are given (YtkgfdbbdmchmeaaDoorTie.lean); close each card by the builder's one call (the guide's Derived/Test/ToyasCard.lean, 'card_holds'). Laid BY PROGRAM, IN A SANDBOX (cutbox-door.mjs). By AI agents, Wed Nov 11 2026. No macro, syntax, notation, axiom, sorry.
-/
import Derived.Test.YtkgfdbbdmchmeaaDoorRows
import GoSem.ClaimSeven
namespace Go.Proofs.YtkgfdbbdmchmeaaDoor
namespace Rows

/-- THE TIED CARD OF 'traveldoclaw15.DatagroupsNumbers'. -/
def datagroupsNumbersCard : Claim7 := { stood := { row := datagroupsNumbersRow, standIns := [], harness := (true, "c78e1052659eaf61048c68d4e75f7da65f263091d0bb821efd9383bed37aec68"), looks := false }, kinds := [], alts := [], laidByText := true, laidKinds := [.data, .data], laidTests := true, laidLooks := .later }
def DatagroupsNumbersCardSaid : Prop := Claim7.holds Tryd.pinned (.plain (OpenSpec.ofChange datagroupsNumbersSpec)) datagroupsNumbersCard

/-- THE TIED CARD OF 'traveldoclaw15.DatagroupsWraps'. -/
def datagroupsWrapsCard : Claim7 := { stood := { row := datagroupsWrapsRow, standIns := [], harness := (true, "c78e1052659eaf61048c68d4e75f7da65f263091d0bb821efd9383bed37aec68"), looks := false }, kinds := [], alts := [], laidByText := true, laidKinds := [.data, .data], laidTests := true, laidLooks := .later }
def DatagroupsWrapsCardSaid : Prop := Claim7.holds Tryd.pinned (.plain (OpenSpec.ofChange datagroupsWrapsSpec)) datagroupsWrapsCard

/-- THE SECOND FORM's CARD OF 'traveldoclaw15.DatagroupsNumbers'. -/
def datagroupsNumbersUptoCard : Claim7 := { stood := { row := datagroupsNumbersUptoRow, standIns := [], harness := (true, "c78e1052659eaf61048c68d4e75f7da65f263091d0bb821efd9383bed37aec68"), looks := false }, kinds := [], alts := [], laidByText := true, laidKinds := [.data, .data], laidTests := true, laidLooks := .later }
def DatagroupsNumbersUptoCardSaid : Prop := Claim7.holds Tryd.pinned (.plain (OpenSpec.upto datagroupsNumbersSpec)) datagroupsNumbersUptoCard

/-- THE SECOND FORM's CARD OF 'traveldoclaw15.DatagroupsWraps'. -/
def datagroupsWrapsUptoCard : Claim7 := { stood := { row := datagroupsWrapsUptoRow, standIns := [], harness := (true, "c78e1052659eaf61048c68d4e75f7da65f263091d0bb821efd9383bed37aec68"), looks := false }, kinds := [], alts := [], laidByText := true, laidKinds := [.data, .data], laidTests := true, laidLooks := .later }
def DatagroupsWrapsUptoCardSaid : Prop := Claim7.holds Tryd.pinned (.plain (OpenSpec.upto datagroupsWrapsSpec)) datagroupsWrapsUptoCard
end Rows
end Go.Proofs.YtkgfdbbdmchmeaaDoor
