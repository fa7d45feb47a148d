/-
  DERIVED. GIVEN WITH THE SEED: THE CARDS: each row of YtnlhbknajdpnbaaGreatDoorRows.lean that lists a variable, with what it lists TIED to the program's text (the seventh form; the later family's looks); each row that meets fmt, with fmt's text TOLD by the authors' own Lean function (tested against real Go, not proved from fmt's source: count such statements apart). THE CARD IS WHAT COUNTS. Prove the row's statement (the work); the ties are given (YtnlhbknajdpnbaaGreatDoorTie.lean); close each card by the builder's one call (the guide's Derived/Test/ToyasCard.lean, 'card_holds'). Laid BY PROGRAM, IN A SANDBOX (cutbox-door.mjs). By AI agents, Wed Nov 11 2026. No macro, syntax, notation, axiom, sorry.
-/
import Derived.Test.YtnlhbknajdpnbaaGreatDoorRows
import GoSem.ClaimSeven
namespace Go.Proofs.YtnlhbknajdpnbaaGreatDoor
namespace Rows

/-- THE TIED CARD OF 'traveldoclaw15.DatagroupsForms'. -/
def datagroupsFormsCard : Claim7 := { stood := { row := datagroupsFormsRow, standIns := [], harness := (true, "1b37db17c9857ca4844df5e10b10838aa6e7a1c0ecdb5a08e414bddc7cdaba25"), looks := false }, kinds := [], alts := [], laidByText := true, laidKinds := [.data, .data], laidTests := true, laidLooks := .later }
def DatagroupsFormsCardSaid : Prop := Claim7.holds Tryz.pinned (.plain (OpenSpec.ofChange datagroupsFormsSpec)) datagroupsFormsCard

/-- THE SECOND FORM's CARD OF 'traveldoclaw15.DatagroupsForms'. -/
def datagroupsFormsUptoCard : Claim7 := { stood := { row := datagroupsFormsUptoRow, standIns := [], harness := (true, "1b37db17c9857ca4844df5e10b10838aa6e7a1c0ecdb5a08e414bddc7cdaba25"), looks := false }, kinds := [], alts := [], laidByText := true, laidKinds := [.data, .data], laidTests := true, laidLooks := .later }
def DatagroupsFormsUptoCardSaid : Prop := Claim7.holds Tryz.pinned (.plain (OpenSpec.upto datagroupsFormsSpec)) datagroupsFormsUptoCard
end Rows
end Go.Proofs.YtnlhbknajdpnbaaGreatDoor
