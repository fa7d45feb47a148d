/-
  DERIVED. GIVEN WITH THE SEED: THE CARDS: each row of YtcapbojjceeapaaDoorRows.lean that lists a variable, with what it lists TIED to the program's text (the seventh form; the later family's looks); each row that meets fmt, with fmt's text TOLD by the authors' own Lean function (tested against real Go, not proved from fmt's source: count such statements apart). THE CARD IS WHAT COUNTS. Prove the row's statement (the work); the ties are given (YtcapbojjceeapaaDoorTie.lean); close each card by the builder's one call (the guide's Derived/Test/ToyasCard.lean, 'card_holds'). Laid BY PROGRAM, IN A SANDBOX (cutbox-door.mjs). By AI agents, Wed Nov 11 2026. No macro, syntax, notation, axiom, sorry.
-/
import Derived.Test.YtcapbojjceeapaaDoorRows
import GoSem.ClaimSeven
namespace Go.Proofs.YtcapbojjceeapaaDoor
namespace Rows

/-- THE TIED CARD OF 'traveldoclaw14.SecurityinfoExact'. -/
def securityinfoExactCard : Claim7 := { stood := { row := securityinfoExactRow, standIns := [], harness := (true, "7e7f72761e08301e316d1a21e8a98195c10560a8f9c9930642b3076be5a9f10b"), looks := false }, kinds := [], alts := [], laidByText := true, laidKinds := [.data], laidTests := true, laidLooks := .later }
def SecurityinfoExactCardSaid : Prop := Claim7.holds Tryd.pinned (.plain (OpenSpec.ofChange securityinfoExactSpec)) securityinfoExactCard

/-- THE TIED CARD OF 'traveldoclaw14.SecurityinfoMade'. -/
def securityinfoMadeCard : Claim7 := { stood := { row := securityinfoMadeRow, standIns := [], harness := (true, "7e7f72761e08301e316d1a21e8a98195c10560a8f9c9930642b3076be5a9f10b"), looks := false }, kinds := [], alts := [], laidByText := true, laidKinds := [.data], laidTests := true, laidLooks := .later }
def SecurityinfoMadeCardSaid : Prop := Claim7.holds Tryd.pinned (.plain (OpenSpec.ofChange securityinfoMadeSpec)) securityinfoMadeCard

/-- THE TIED CARD OF 'traveldoclaw14.SecurityinfoReturns'. -/
def securityinfoReturnsCard : Claim7 := { stood := { row := securityinfoReturnsRow, standIns := [], harness := (true, "7e7f72761e08301e316d1a21e8a98195c10560a8f9c9930642b3076be5a9f10b"), looks := false }, kinds := [], alts := [], laidByText := true, laidKinds := [.data], laidTests := true, laidLooks := .later }
def SecurityinfoReturnsCardSaid : Prop := Claim7.holds Tryd.pinned (.plain (OpenSpec.ofChange securityinfoReturnsSpec)) securityinfoReturnsCard

/-- THE TIED CARD OF 'traveldoclaw14.SecurityinfoChooses'. -/
def securityinfoChoosesCard : Claim7 := { stood := { row := securityinfoChoosesRow, standIns := [], harness := (true, "7e7f72761e08301e316d1a21e8a98195c10560a8f9c9930642b3076be5a9f10b"), looks := false }, kinds := [], alts := [], laidByText := true, laidKinds := [.data], laidTests := true, laidLooks := .later }
def SecurityinfoChoosesCardSaid : Prop := Claim7.holds Tryd.pinned (.plain (OpenSpec.ofChange securityinfoChoosesSpec)) securityinfoChoosesCard

/-- THE TIED CARD OF 'traveldoclaw14.SecurityinfoTells'. -/
def securityinfoTellsCard : Claim7 := { stood := { row := securityinfoTellsRow, standIns := [], harness := (true, "7e7f72761e08301e316d1a21e8a98195c10560a8f9c9930642b3076be5a9f10b"), looks := false }, kinds := [], alts := [], laidByText := true, laidKinds := [.data], laidTests := true, laidLooks := .later }
def SecurityinfoTellsCardSaid : Prop := Claim7.holds Tryd.pinned (.plain (OpenSpec.ofChange securityinfoTellsSpec)) securityinfoTellsCard

/-- THE SECOND FORM's CARD OF 'traveldoclaw14.SecurityinfoExact'. -/
def securityinfoExactUptoCard : Claim7 := { stood := { row := securityinfoExactUptoRow, standIns := [], harness := (true, "7e7f72761e08301e316d1a21e8a98195c10560a8f9c9930642b3076be5a9f10b"), looks := false }, kinds := [], alts := [], laidByText := true, laidKinds := [.data], laidTests := true, laidLooks := .later }
def SecurityinfoExactUptoCardSaid : Prop := Claim7.holds Tryd.pinned (.plain (OpenSpec.upto securityinfoExactSpec)) securityinfoExactUptoCard

/-- THE SECOND FORM's CARD OF 'traveldoclaw14.SecurityinfoMade'. -/
def securityinfoMadeUptoCard : Claim7 := { stood := { row := securityinfoMadeUptoRow, standIns := [], harness := (true, "7e7f72761e08301e316d1a21e8a98195c10560a8f9c9930642b3076be5a9f10b"), looks := false }, kinds := [], alts := [], laidByText := true, laidKinds := [.data], laidTests := true, laidLooks := .later }
def SecurityinfoMadeUptoCardSaid : Prop := Claim7.holds Tryd.pinned (.plain (OpenSpec.upto securityinfoMadeSpec)) securityinfoMadeUptoCard

/-- THE SECOND FORM's CARD OF 'traveldoclaw14.SecurityinfoReturns'. -/
def securityinfoReturnsUptoCard : Claim7 := { stood := { row := securityinfoReturnsUptoRow, standIns := [], harness := (true, "7e7f72761e08301e316d1a21e8a98195c10560a8f9c9930642b3076be5a9f10b"), looks := false }, kinds := [], alts := [], laidByText := true, laidKinds := [.data], laidTests := true, laidLooks := .later }
def SecurityinfoReturnsUptoCardSaid : Prop := Claim7.holds Tryd.pinned (.plain (OpenSpec.upto securityinfoReturnsSpec)) securityinfoReturnsUptoCard

/-- THE SECOND FORM's CARD OF 'traveldoclaw14.SecurityinfoChooses'. -/
def securityinfoChoosesUptoCard : Claim7 := { stood := { row := securityinfoChoosesUptoRow, standIns := [], harness := (true, "7e7f72761e08301e316d1a21e8a98195c10560a8f9c9930642b3076be5a9f10b"), looks := false }, kinds := [], alts := [], laidByText := true, laidKinds := [.data], laidTests := true, laidLooks := .later }
def SecurityinfoChoosesUptoCardSaid : Prop := Claim7.holds Tryd.pinned (.plain (OpenSpec.upto securityinfoChoosesSpec)) securityinfoChoosesUptoCard

/-- THE SECOND FORM's CARD OF 'traveldoclaw14.SecurityinfoTells'. -/
def securityinfoTellsUptoCard : Claim7 := { stood := { row := securityinfoTellsUptoRow, standIns := [], harness := (true, "7e7f72761e08301e316d1a21e8a98195c10560a8f9c9930642b3076be5a9f10b"), looks := false }, kinds := [], alts := [], laidByText := true, laidKinds := [.data], laidTests := true, laidLooks := .later }
def SecurityinfoTellsUptoCardSaid : Prop := Claim7.holds Tryd.pinned (.plain (OpenSpec.upto securityinfoTellsSpec)) securityinfoTellsUptoCard
end Rows
end Go.Proofs.YtcapbojjceeapaaDoor
