/-
  DERIVED. GIVEN WITH THE SEED: THE CARDS: each row of YtibahbkjjfmbgaaGreatDoorRows.lean that lists a variable, with what it lists TIED to the program's text (the seventh form; the later family's looks); each row that meets fmt, with fmt's text TOLD by the authors' own Lean function (tested against real Go, not proved from fmt's source: count such statements apart). THE CARD IS WHAT COUNTS. Prove the row's statement (the work); the ties are given (YtibahbkjjfmbgaaGreatDoorTie.lean); close each card by the builder's one call (the guide's Derived/Test/ToyasCard.lean, 'card_holds'). Laid BY PROGRAM, IN A SANDBOX (cutbox-door.mjs). By AI agents, Wed Nov 11 2026. No macro, syntax, notation, axiom, sorry.
-/
import Derived.Test.YtibahbkjjfmbgaaGreatDoorRows
import GoSem.ClaimSeven
namespace Go.Proofs.YtibahbkjjfmbgaaGreatDoor
namespace Rows

/-- THE TIED CARD OF 'traveldoclaw12.ReadingSimilar'. -/
def readingSimilarCard : Claim7 := { stood := { row := readingSimilarRow, standIns := [], harness := (true, "6c3de1632d21ca8a5666dc71dfb1e7cabc4752c6f0c150b2c5e00ab7410987d3"), looks := false }, kinds := [], alts := [], laidByText := true, laidKinds := [.data, .data, .data, .data, .data, .data, .data, .data, .data, .pinned], laidTests := true, laidLooks := .later }
def ReadingSimilarCardSaid : Prop := Claim7.holds Tryz.pinned (.plain (OpenSpec.ofChange readingSimilarSpec)) readingSimilarCard

/-- THE TIED CARD OF 'traveldoclaw12.ReadingWidens'. -/
def readingWidensCard : Claim7 := { stood := { row := readingWidensRow, standIns := [], harness := (true, "6c3de1632d21ca8a5666dc71dfb1e7cabc4752c6f0c150b2c5e00ab7410987d3"), looks := false }, kinds := [], alts := [], laidByText := true, laidKinds := [.data, .data, .data, .data, .data, .data, .data, .data, .data, .pinned], laidTests := true, laidLooks := .later }
def ReadingWidensCardSaid : Prop := Claim7.holds Tryz.pinned (.plain (OpenSpec.ofChange readingWidensSpec)) readingWidensCard

/-- THE TIED CARD OF 'traveldoclaw12.ReadingFinds'. -/
def readingFindsCard : Claim7 := { stood := { row := readingFindsRow, standIns := [], harness := (true, "6c3de1632d21ca8a5666dc71dfb1e7cabc4752c6f0c150b2c5e00ab7410987d3"), looks := false }, kinds := [], alts := [], laidByText := true, laidKinds := [.data, .data, .data, .data, .data, .data, .data, .data, .pinned], laidTests := true, laidLooks := .later }
def ReadingFindsCardSaid : Prop := Claim7.holds Tryz.pinned (.plain (OpenSpec.ofChange readingFindsSpec)) readingFindsCard

/-- THE TIED CARD OF 'traveldoclaw12.ReadingAny'. -/
def readingAnyCard : Claim7 := { stood := { row := readingAnyRow, standIns := [], harness := (true, "6c3de1632d21ca8a5666dc71dfb1e7cabc4752c6f0c150b2c5e00ab7410987d3"), looks := false }, kinds := [], alts := [], laidByText := true, laidKinds := [.data, .data, .data, .data, .data, .data, .data, .data, .pinned], laidTests := true, laidLooks := .later }
def ReadingAnyCardSaid : Prop := Claim7.holds Tryz.pinned (.plain (OpenSpec.ofChange readingAnySpec)) readingAnyCard

/-- THE TIED CARD OF 'traveldoclaw12.ReadingGrows'. -/
def readingGrowsCard : Claim7 := { stood := { row := readingGrowsRow, standIns := [], harness := (true, "6c3de1632d21ca8a5666dc71dfb1e7cabc4752c6f0c150b2c5e00ab7410987d3"), looks := false }, kinds := [], alts := [], laidByText := true, laidKinds := [.data, .data, .data, .data, .data, .data, .data, .data, .pinned], laidTests := true, laidLooks := .later }
def ReadingGrowsCardSaid : Prop := Claim7.holds Tryz.pinned (.plain (OpenSpec.ofChange readingGrowsSpec)) readingGrowsCard

/-- THE TIED CARD OF 'traveldoclaw12.ReadingReads'. -/
def readingReadsCard : Claim7 := { stood := { row := readingReadsRow, standIns := [], harness := (true, "6c3de1632d21ca8a5666dc71dfb1e7cabc4752c6f0c150b2c5e00ab7410987d3"), looks := false }, kinds := [], alts := [], laidByText := true, laidKinds := [.data, .data, .data, .data, .data, .data, .data, .data, .pinned], laidTests := true, laidLooks := .later }
def ReadingReadsCardSaid : Prop := Claim7.holds Tryz.pinned (.plain (OpenSpec.ofChange readingReadsSpec)) readingReadsCard

/-- THE TIED CARD OF 'traveldoclaw12.ReadingLimits'. -/
def readingLimitsCard : Claim7 := { stood := { row := readingLimitsRow, standIns := [], harness := (true, "6c3de1632d21ca8a5666dc71dfb1e7cabc4752c6f0c150b2c5e00ab7410987d3"), looks := false }, kinds := [], alts := [], laidByText := true, laidKinds := [.data, .data, .data, .data, .data, .data, .data, .data, .pinned], laidTests := true, laidLooks := .later }
def ReadingLimitsCardSaid : Prop := Claim7.holds Tryz.pinned (.plain (OpenSpec.ofChange readingLimitsSpec)) readingLimitsCard

/-- THE SECOND FORM's CARD OF 'traveldoclaw12.ReadingSimilar'. -/
def readingSimilarUptoCard : Claim7 := { stood := { row := readingSimilarUptoRow, standIns := [], harness := (true, "6c3de1632d21ca8a5666dc71dfb1e7cabc4752c6f0c150b2c5e00ab7410987d3"), looks := false }, kinds := [], alts := [], laidByText := true, laidKinds := [.data, .data, .data, .data, .data, .data, .data, .data, .data, .pinned], laidTests := true, laidLooks := .later }
def ReadingSimilarUptoCardSaid : Prop := Claim7.holds Tryz.pinned (.plain (OpenSpec.upto readingSimilarSpec)) readingSimilarUptoCard

/-- THE SECOND FORM's CARD OF 'traveldoclaw12.ReadingWidens'. -/
def readingWidensUptoCard : Claim7 := { stood := { row := readingWidensUptoRow, standIns := [], harness := (true, "6c3de1632d21ca8a5666dc71dfb1e7cabc4752c6f0c150b2c5e00ab7410987d3"), looks := false }, kinds := [], alts := [], laidByText := true, laidKinds := [.data, .data, .data, .data, .data, .data, .data, .data, .data, .pinned], laidTests := true, laidLooks := .later }
def ReadingWidensUptoCardSaid : Prop := Claim7.holds Tryz.pinned (.plain (OpenSpec.upto readingWidensSpec)) readingWidensUptoCard

/-- THE SECOND FORM's CARD OF 'traveldoclaw12.ReadingFinds'. -/
def readingFindsUptoCard : Claim7 := { stood := { row := readingFindsUptoRow, standIns := [], harness := (true, "6c3de1632d21ca8a5666dc71dfb1e7cabc4752c6f0c150b2c5e00ab7410987d3"), looks := false }, kinds := [], alts := [], laidByText := true, laidKinds := [.data, .data, .data, .data, .data, .data, .data, .data, .pinned], laidTests := true, laidLooks := .later }
def ReadingFindsUptoCardSaid : Prop := Claim7.holds Tryz.pinned (.plain (OpenSpec.upto readingFindsSpec)) readingFindsUptoCard

/-- THE SECOND FORM's CARD OF 'traveldoclaw12.ReadingAny'. -/
def readingAnyUptoCard : Claim7 := { stood := { row := readingAnyUptoRow, standIns := [], harness := (true, "6c3de1632d21ca8a5666dc71dfb1e7cabc4752c6f0c150b2c5e00ab7410987d3"), looks := false }, kinds := [], alts := [], laidByText := true, laidKinds := [.data, .data, .data, .data, .data, .data, .data, .data, .pinned], laidTests := true, laidLooks := .later }
def ReadingAnyUptoCardSaid : Prop := Claim7.holds Tryz.pinned (.plain (OpenSpec.upto readingAnySpec)) readingAnyUptoCard

/-- THE SECOND FORM's CARD OF 'traveldoclaw12.ReadingGrows'. -/
def readingGrowsUptoCard : Claim7 := { stood := { row := readingGrowsUptoRow, standIns := [], harness := (true, "6c3de1632d21ca8a5666dc71dfb1e7cabc4752c6f0c150b2c5e00ab7410987d3"), looks := false }, kinds := [], alts := [], laidByText := true, laidKinds := [.data, .data, .data, .data, .data, .data, .data, .data, .pinned], laidTests := true, laidLooks := .later }
def ReadingGrowsUptoCardSaid : Prop := Claim7.holds Tryz.pinned (.plain (OpenSpec.upto readingGrowsSpec)) readingGrowsUptoCard

/-- THE SECOND FORM's CARD OF 'traveldoclaw12.ReadingReads'. -/
def readingReadsUptoCard : Claim7 := { stood := { row := readingReadsUptoRow, standIns := [], harness := (true, "6c3de1632d21ca8a5666dc71dfb1e7cabc4752c6f0c150b2c5e00ab7410987d3"), looks := false }, kinds := [], alts := [], laidByText := true, laidKinds := [.data, .data, .data, .data, .data, .data, .data, .data, .pinned], laidTests := true, laidLooks := .later }
def ReadingReadsUptoCardSaid : Prop := Claim7.holds Tryz.pinned (.plain (OpenSpec.upto readingReadsSpec)) readingReadsUptoCard

/-- THE SECOND FORM's CARD OF 'traveldoclaw12.ReadingLimits'. -/
def readingLimitsUptoCard : Claim7 := { stood := { row := readingLimitsUptoRow, standIns := [], harness := (true, "6c3de1632d21ca8a5666dc71dfb1e7cabc4752c6f0c150b2c5e00ab7410987d3"), looks := false }, kinds := [], alts := [], laidByText := true, laidKinds := [.data, .data, .data, .data, .data, .data, .data, .data, .pinned], laidTests := true, laidLooks := .later }
def ReadingLimitsUptoCardSaid : Prop := Claim7.holds Tryz.pinned (.plain (OpenSpec.upto readingLimitsSpec)) readingLimitsUptoCard
end Rows
end Go.Proofs.YtibahbkjjfmbgaaGreatDoor
