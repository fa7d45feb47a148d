/-
  DERIVED. GIVEN WITH THE SEED: THE CARDS: each row of YtgecahokkgealaaDoorRows.lean that lists a variable, with what it lists TIED to the program's text (the seventh form; the later family's looks); each row that meets fmt, with fmt's text TOLD by the authors' own Lean function (tested against real Go, not proved from fmt's source: count such statements apart). THE CARD IS WHAT COUNTS. Prove the row's statement (the work); the ties are given (YtgecahokkgealaaDoorTie.lean); close each card by the builder's one call (the guide's Derived/Test/ToyasCard.lean, 'card_holds'). Laid BY PROGRAM, IN A SANDBOX (cutbox-door.mjs). By AI agents, Wed Nov 11 2026. No macro, syntax, notation, axiom, sorry.
-/
import Derived.Test.YtgecahokkgealaaDoorRows
import GoSem.ClaimSeven
namespace Go.Proofs.YtgecahokkgealaaDoor
namespace Rows

/-- THE TIED CARD OF 'traveldoclaw03.DatesDays'. -/
def datesDaysCard : Claim7 := { stood := { row := datesDaysRow, standIns := [], harness := (true, "314ebfb0137786c132e6d3a38417a55a7c67c42f2b45ba395f39b7b1a7485b56"), looks := false }, kinds := [], alts := [], laidByText := true, laidKinds := [.data], laidTests := true, laidLooks := .later }
def DatesDaysCardSaid : Prop := Claim7.holds Tryd.pinned (.plain (OpenSpec.ofChange datesDaysSpec)) datesDaysCard

/-- THE TIED CARD OF 'traveldoclaw03.DatesTexts'. -/
def datesTextsCard : Claim7 := { stood := { row := datesTextsRow, standIns := [], harness := (true, "314ebfb0137786c132e6d3a38417a55a7c67c42f2b45ba395f39b7b1a7485b56"), looks := false }, kinds := [], alts := [], laidByText := true, laidKinds := [.data], laidTests := true, laidLooks := .later }
def DatesTextsCardSaid : Prop := Claim7.holds Tryd.pinned (.plain (OpenSpec.ofChange datesTextsSpec)) datesTextsCard

/-- THE TIED CARD OF 'traveldoclaw03.DatesMonths'. -/
def datesMonthsCard : Claim7 := { stood := { row := datesMonthsRow, standIns := [], harness := (true, "314ebfb0137786c132e6d3a38417a55a7c67c42f2b45ba395f39b7b1a7485b56"), looks := false }, kinds := [], alts := [], laidByText := true, laidKinds := [.data], laidTests := true, laidLooks := .later }
def DatesMonthsCardSaid : Prop := Claim7.holds Tryd.pinned (.plain (OpenSpec.ofChange datesMonthsSpec)) datesMonthsCard

/-- THE TIED CARD OF 'traveldoclaw03.DatesAges'. -/
def datesAgesCard : Claim7 := { stood := { row := datesAgesRow, standIns := [], harness := (true, "314ebfb0137786c132e6d3a38417a55a7c67c42f2b45ba395f39b7b1a7485b56"), looks := false }, kinds := [], alts := [], laidByText := true, laidKinds := [.data], laidTests := true, laidLooks := .later }
def DatesAgesCardSaid : Prop := Claim7.holds Tryd.pinned (.plain (OpenSpec.ofChange datesAgesSpec)) datesAgesCard

/-- THE TIED CARD OF 'traveldoclaw03.DatesFollow'. -/
def datesFollowCard : Claim7 := { stood := { row := datesFollowRow, standIns := [], harness := (true, "314ebfb0137786c132e6d3a38417a55a7c67c42f2b45ba395f39b7b1a7485b56"), looks := false }, kinds := [], alts := [], laidByText := true, laidKinds := [.data], laidTests := true, laidLooks := .later }
def DatesFollowCardSaid : Prop := Claim7.holds Tryd.pinned (.plain (OpenSpec.ofChange datesFollowSpec)) datesFollowCard

/-- THE TIED CARD OF 'traveldoclaw03.DatesWindow'. -/
def datesWindowCard : Claim7 := { stood := { row := datesWindowRow, standIns := [], harness := (true, "314ebfb0137786c132e6d3a38417a55a7c67c42f2b45ba395f39b7b1a7485b56"), looks := false }, kinds := [], alts := [], laidByText := true, laidKinds := [.data], laidTests := true, laidLooks := .later }
def DatesWindowCardSaid : Prop := Claim7.holds Tryd.pinned (.plain (OpenSpec.ofChange datesWindowSpec)) datesWindowCard

/-- THE TIED CARD OF 'traveldoclaw03.DatesMonthsAdd'. -/
def datesMonthsAddCard : Claim7 := { stood := { row := datesMonthsAddRow, standIns := [], harness := (true, "314ebfb0137786c132e6d3a38417a55a7c67c42f2b45ba395f39b7b1a7485b56"), looks := false }, kinds := [], alts := [], laidByText := true, laidKinds := [.data], laidTests := true, laidLooks := .later }
def DatesMonthsAddCardSaid : Prop := Claim7.holds Tryd.pinned (.plain (OpenSpec.ofChange datesMonthsAddSpec)) datesMonthsAddCard

/-- THE TIED CARD OF 'traveldoclaw03.DatesAgesGrow'. -/
def datesAgesGrowCard : Claim7 := { stood := { row := datesAgesGrowRow, standIns := [], harness := (true, "314ebfb0137786c132e6d3a38417a55a7c67c42f2b45ba395f39b7b1a7485b56"), looks := false }, kinds := [], alts := [], laidByText := true, laidKinds := [.data], laidTests := true, laidLooks := .later }
def DatesAgesGrowCardSaid : Prop := Claim7.holds Tryd.pinned (.plain (OpenSpec.ofChange datesAgesGrowSpec)) datesAgesGrowCard

/-- THE SECOND FORM's CARD OF 'traveldoclaw03.DatesDays'. -/
def datesDaysUptoCard : Claim7 := { stood := { row := datesDaysUptoRow, standIns := [], harness := (true, "314ebfb0137786c132e6d3a38417a55a7c67c42f2b45ba395f39b7b1a7485b56"), looks := false }, kinds := [], alts := [], laidByText := true, laidKinds := [.data], laidTests := true, laidLooks := .later }
def DatesDaysUptoCardSaid : Prop := Claim7.holds Tryd.pinned (.plain (OpenSpec.upto datesDaysSpec)) datesDaysUptoCard

/-- THE SECOND FORM's CARD OF 'traveldoclaw03.DatesTexts'. -/
def datesTextsUptoCard : Claim7 := { stood := { row := datesTextsUptoRow, standIns := [], harness := (true, "314ebfb0137786c132e6d3a38417a55a7c67c42f2b45ba395f39b7b1a7485b56"), looks := false }, kinds := [], alts := [], laidByText := true, laidKinds := [.data], laidTests := true, laidLooks := .later }
def DatesTextsUptoCardSaid : Prop := Claim7.holds Tryd.pinned (.plain (OpenSpec.upto datesTextsSpec)) datesTextsUptoCard

/-- THE SECOND FORM's CARD OF 'traveldoclaw03.DatesMonths'. -/
def datesMonthsUptoCard : Claim7 := { stood := { row := datesMonthsUptoRow, standIns := [], harness := (true, "314ebfb0137786c132e6d3a38417a55a7c67c42f2b45ba395f39b7b1a7485b56"), looks := false }, kinds := [], alts := [], laidByText := true, laidKinds := [.data], laidTests := true, laidLooks := .later }
def DatesMonthsUptoCardSaid : Prop := Claim7.holds Tryd.pinned (.plain (OpenSpec.upto datesMonthsSpec)) datesMonthsUptoCard

/-- THE SECOND FORM's CARD OF 'traveldoclaw03.DatesAges'. -/
def datesAgesUptoCard : Claim7 := { stood := { row := datesAgesUptoRow, standIns := [], harness := (true, "314ebfb0137786c132e6d3a38417a55a7c67c42f2b45ba395f39b7b1a7485b56"), looks := false }, kinds := [], alts := [], laidByText := true, laidKinds := [.data], laidTests := true, laidLooks := .later }
def DatesAgesUptoCardSaid : Prop := Claim7.holds Tryd.pinned (.plain (OpenSpec.upto datesAgesSpec)) datesAgesUptoCard

/-- THE SECOND FORM's CARD OF 'traveldoclaw03.DatesFollow'. -/
def datesFollowUptoCard : Claim7 := { stood := { row := datesFollowUptoRow, standIns := [], harness := (true, "314ebfb0137786c132e6d3a38417a55a7c67c42f2b45ba395f39b7b1a7485b56"), looks := false }, kinds := [], alts := [], laidByText := true, laidKinds := [.data], laidTests := true, laidLooks := .later }
def DatesFollowUptoCardSaid : Prop := Claim7.holds Tryd.pinned (.plain (OpenSpec.upto datesFollowSpec)) datesFollowUptoCard

/-- THE SECOND FORM's CARD OF 'traveldoclaw03.DatesWindow'. -/
def datesWindowUptoCard : Claim7 := { stood := { row := datesWindowUptoRow, standIns := [], harness := (true, "314ebfb0137786c132e6d3a38417a55a7c67c42f2b45ba395f39b7b1a7485b56"), looks := false }, kinds := [], alts := [], laidByText := true, laidKinds := [.data], laidTests := true, laidLooks := .later }
def DatesWindowUptoCardSaid : Prop := Claim7.holds Tryd.pinned (.plain (OpenSpec.upto datesWindowSpec)) datesWindowUptoCard

/-- THE SECOND FORM's CARD OF 'traveldoclaw03.DatesMonthsAdd'. -/
def datesMonthsAddUptoCard : Claim7 := { stood := { row := datesMonthsAddUptoRow, standIns := [], harness := (true, "314ebfb0137786c132e6d3a38417a55a7c67c42f2b45ba395f39b7b1a7485b56"), looks := false }, kinds := [], alts := [], laidByText := true, laidKinds := [.data], laidTests := true, laidLooks := .later }
def DatesMonthsAddUptoCardSaid : Prop := Claim7.holds Tryd.pinned (.plain (OpenSpec.upto datesMonthsAddSpec)) datesMonthsAddUptoCard

/-- THE SECOND FORM's CARD OF 'traveldoclaw03.DatesAgesGrow'. -/
def datesAgesGrowUptoCard : Claim7 := { stood := { row := datesAgesGrowUptoRow, standIns := [], harness := (true, "314ebfb0137786c132e6d3a38417a55a7c67c42f2b45ba395f39b7b1a7485b56"), looks := false }, kinds := [], alts := [], laidByText := true, laidKinds := [.data], laidTests := true, laidLooks := .later }
def DatesAgesGrowUptoCardSaid : Prop := Claim7.holds Tryd.pinned (.plain (OpenSpec.upto datesAgesGrowSpec)) datesAgesGrowUptoCard
end Rows
end Go.Proofs.YtgecahokkgealaaDoor
