/-
  DERIVED. GIVEN WITH THE SEED: THE CARDS: each row of YtlcenfjpfnldlaaDoorRows.lean that lists a variable, with what it lists TIED to the program's text (the seventh form; the later family's looks); each row that meets fmt, with fmt's text TOLD by the authors' own Lean function (tested against real Go, not proved from fmt's source: count such statements apart). THE CARD IS WHAT COUNTS. Prove the row's statement (the work); the ties are given (YtlcenfjpfnldlaaDoorTie.lean); close each card by the builder's one call (the guide's Derived/Test/ToyasCard.lean, 'card_holds'). Laid BY PROGRAM, IN A SANDBOX (cutbox-door.mjs). By AI agents, Wed Nov 11 2026. No macro, syntax, notation, axiom, sorry.
-/
import Derived.Test.YtlcenfjpfnldlaaDoorRows
import GoSem.ClaimSeven
namespace Go.Proofs.YtlcenfjpfnldlaaDoor
namespace Rows

/-- THE TIED CARD OF 'traveldoclaw04.DigestPads'. -/
def digestPadsCard : Claim7 := { stood := { row := digestPadsRow, standIns := [], harness := (true, "b861486080f2b56e0b113f3d12ad94faaa57c8fdd5d5986b7dac3fb17a757c56"), looks := false }, kinds := [], alts := [], laidByText := true, laidKinds := [.data, .data], laidTests := true, laidLooks := .later }
def DigestPadsCardSaid : Prop := Claim7.holds Tryd.pinned (.plain (OpenSpec.ofChange digestPadsSpec)) digestPadsCard

/-- THE TIED CARD OF 'traveldoclaw04.DigestCompresses'. -/
def digestCompressesCard : Claim7 := { stood := { row := digestCompressesRow, standIns := [], harness := (true, "b861486080f2b56e0b113f3d12ad94faaa57c8fdd5d5986b7dac3fb17a757c56"), looks := false }, kinds := [], alts := [], laidByText := true, laidKinds := [.data, .data, .data], laidTests := true, laidLooks := .later }
def DigestCompressesCardSaid : Prop := Claim7.holds Tryd.pinned (.plain (OpenSpec.ofChange digestCompressesSpec)) digestCompressesCard

/-- THE TIED CARD OF 'traveldoclaw04.DigestSums'. -/
def digestSumsCard : Claim7 := { stood := { row := digestSumsRow, standIns := [], harness := (true, "b861486080f2b56e0b113f3d12ad94faaa57c8fdd5d5986b7dac3fb17a757c56"), looks := false }, kinds := [], alts := [], laidByText := true, laidKinds := [.data, .data, .data], laidTests := true, laidLooks := .later }
def DigestSumsCardSaid : Prop := Claim7.holds Tryd.pinned (.plain (OpenSpec.ofChange digestSumsSpec)) digestSumsCard

/-- THE TIED CARD OF 'traveldoclaw04.DigestGoesOn'. -/
def digestGoesOnCard : Claim7 := { stood := { row := digestGoesOnRow, standIns := [], harness := (true, "b861486080f2b56e0b113f3d12ad94faaa57c8fdd5d5986b7dac3fb17a757c56"), looks := false }, kinds := [], alts := [], laidByText := true, laidKinds := [.data, .data], laidTests := true, laidLooks := .later }
def DigestGoesOnCardSaid : Prop := Claim7.holds Tryd.pinned (.plain (OpenSpec.ofChange digestGoesOnSpec)) digestGoesOnCard

/-- THE TIED CARD OF 'traveldoclaw04.DigestStandard'. -/
def digestStandardCard : Claim7 := { stood := { row := digestStandardRow, standIns := [], harness := (true, "b861486080f2b56e0b113f3d12ad94faaa57c8fdd5d5986b7dac3fb17a757c56"), looks := false }, kinds := [], alts := [], laidByText := true, laidKinds := [.data, .data], laidTests := true, laidLooks := .later }
def DigestStandardCardSaid : Prop := Claim7.holds Tryd.pinned (.plain (OpenSpec.ofChange digestStandardSpec)) digestStandardCard

/-- THE SECOND FORM's CARD OF 'traveldoclaw04.DigestPads'. -/
def digestPadsUptoCard : Claim7 := { stood := { row := digestPadsUptoRow, standIns := [], harness := (true, "b861486080f2b56e0b113f3d12ad94faaa57c8fdd5d5986b7dac3fb17a757c56"), looks := false }, kinds := [], alts := [], laidByText := true, laidKinds := [.data, .data], laidTests := true, laidLooks := .later }
def DigestPadsUptoCardSaid : Prop := Claim7.holds Tryd.pinned (.plain (OpenSpec.upto digestPadsSpec)) digestPadsUptoCard

/-- THE SECOND FORM's CARD OF 'traveldoclaw04.DigestCompresses'. -/
def digestCompressesUptoCard : Claim7 := { stood := { row := digestCompressesUptoRow, standIns := [], harness := (true, "b861486080f2b56e0b113f3d12ad94faaa57c8fdd5d5986b7dac3fb17a757c56"), looks := false }, kinds := [], alts := [], laidByText := true, laidKinds := [.data, .data, .data], laidTests := true, laidLooks := .later }
def DigestCompressesUptoCardSaid : Prop := Claim7.holds Tryd.pinned (.plain (OpenSpec.upto digestCompressesSpec)) digestCompressesUptoCard

/-- THE SECOND FORM's CARD OF 'traveldoclaw04.DigestSums'. -/
def digestSumsUptoCard : Claim7 := { stood := { row := digestSumsUptoRow, standIns := [], harness := (true, "b861486080f2b56e0b113f3d12ad94faaa57c8fdd5d5986b7dac3fb17a757c56"), looks := false }, kinds := [], alts := [], laidByText := true, laidKinds := [.data, .data, .data], laidTests := true, laidLooks := .later }
def DigestSumsUptoCardSaid : Prop := Claim7.holds Tryd.pinned (.plain (OpenSpec.upto digestSumsSpec)) digestSumsUptoCard

/-- THE SECOND FORM's CARD OF 'traveldoclaw04.DigestGoesOn'. -/
def digestGoesOnUptoCard : Claim7 := { stood := { row := digestGoesOnUptoRow, standIns := [], harness := (true, "b861486080f2b56e0b113f3d12ad94faaa57c8fdd5d5986b7dac3fb17a757c56"), looks := false }, kinds := [], alts := [], laidByText := true, laidKinds := [.data, .data], laidTests := true, laidLooks := .later }
def DigestGoesOnUptoCardSaid : Prop := Claim7.holds Tryd.pinned (.plain (OpenSpec.upto digestGoesOnSpec)) digestGoesOnUptoCard

/-- THE SECOND FORM's CARD OF 'traveldoclaw04.DigestStandard'. -/
def digestStandardUptoCard : Claim7 := { stood := { row := digestStandardUptoRow, standIns := [], harness := (true, "b861486080f2b56e0b113f3d12ad94faaa57c8fdd5d5986b7dac3fb17a757c56"), looks := false }, kinds := [], alts := [], laidByText := true, laidKinds := [.data, .data], laidTests := true, laidLooks := .later }
def DigestStandardUptoCardSaid : Prop := Claim7.holds Tryd.pinned (.plain (OpenSpec.upto digestStandardSpec)) digestStandardUptoCard
end Rows
end Go.Proofs.YtlcenfjpfnldlaaDoor
