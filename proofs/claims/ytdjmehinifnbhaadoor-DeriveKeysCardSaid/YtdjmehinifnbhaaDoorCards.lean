/-
  DERIVED. GIVEN WITH THE SEED: THE CARDS: each row of YtdjmehinifnbhaaDoorRows.lean that lists a variable, with what it lists TIED to the program's text (the seventh form; the later family's looks); each row that meets fmt, with fmt's text TOLD by the authors' own Lean function (tested against real Go, not proved from fmt's source: count such statements apart). THE CARD IS WHAT COUNTS. Prove the row's statement (the work); the ties are given (YtdjmehinifnbhaaDoorTie.lean); close each card by the builder's one call (the guide's Derived/Test/ToyasCard.lean, 'card_holds'). Laid BY PROGRAM, IN A SANDBOX (cutbox-door.mjs). By AI agents, Wed Nov 11 2026. No macro, syntax, notation, axiom, sorry.
-/
import Derived.Test.YtdjmehinifnbhaaDoorRows
import GoSem.ClaimSeven
namespace Go.Proofs.YtdjmehinifnbhaaDoor
namespace Rows

/-- THE TIED CARD OF 'traveldoclaw07.DeriveKeys'. -/
def deriveKeysCard : Claim7 := { stood := { row := deriveKeysRow, standIns := [], harness := (true, "3b570ebb3907f8a774175a8dd4aa21fe73a4838eb402038a609bfb61670b2a41"), looks := false }, kinds := [], alts := [], laidByText := true, laidKinds := [.data, .data, .data], laidTests := true, laidLooks := .later }
def DeriveKeysCardSaid : Prop := Claim7.holds Tryd.pinned (.plain (OpenSpec.ofChange deriveKeysSpec)) deriveKeysCard

/-- THE TIED CARD OF 'traveldoclaw07.DeriveDraws'. -/
def deriveDrawsCard : Claim7 := { stood := { row := deriveDrawsRow, standIns := [], harness := (true, "3b570ebb3907f8a774175a8dd4aa21fe73a4838eb402038a609bfb61670b2a41"), looks := false }, kinds := [], alts := [], laidByText := true, laidKinds := [.data, .data, .data], laidTests := true, laidLooks := .later }
def DeriveDrawsCardSaid : Prop := Claim7.holds Tryd.pinned (.plain (OpenSpec.ofChange deriveDrawsSpec)) deriveDrawsCard

/-- THE TIED CARD OF 'traveldoclaw07.DeriveSecrets'. -/
def deriveSecretsCard : Claim7 := { stood := { row := deriveSecretsRow, standIns := [], harness := (true, "3b570ebb3907f8a774175a8dd4aa21fe73a4838eb402038a609bfb61670b2a41"), looks := false }, kinds := [], alts := [], laidByText := true, laidKinds := [.data, .data, .data], laidTests := true, laidLooks := .later }
def DeriveSecretsCardSaid : Prop := Claim7.holds Tryd.pinned (.plain (OpenSpec.ofChange deriveSecretsSpec)) deriveSecretsCard

/-- THE TIED CARD OF 'traveldoclaw07.DeriveBegins'. -/
def deriveBeginsCard : Claim7 := { stood := { row := deriveBeginsRow, standIns := [], harness := (true, "3b570ebb3907f8a774175a8dd4aa21fe73a4838eb402038a609bfb61670b2a41"), looks := false }, kinds := [], alts := [], laidByText := true, laidKinds := [.data, .data], laidTests := true, laidLooks := .later }
def DeriveBeginsCardSaid : Prop := Claim7.holds Tryd.pinned (.plain (OpenSpec.ofChange deriveBeginsSpec)) deriveBeginsCard

/-- THE SECOND FORM's CARD OF 'traveldoclaw07.DeriveKeys'. -/
def deriveKeysUptoCard : Claim7 := { stood := { row := deriveKeysUptoRow, standIns := [], harness := (true, "3b570ebb3907f8a774175a8dd4aa21fe73a4838eb402038a609bfb61670b2a41"), looks := false }, kinds := [], alts := [], laidByText := true, laidKinds := [.data, .data, .data], laidTests := true, laidLooks := .later }
def DeriveKeysUptoCardSaid : Prop := Claim7.holds Tryd.pinned (.plain (OpenSpec.upto deriveKeysSpec)) deriveKeysUptoCard

/-- THE SECOND FORM's CARD OF 'traveldoclaw07.DeriveDraws'. -/
def deriveDrawsUptoCard : Claim7 := { stood := { row := deriveDrawsUptoRow, standIns := [], harness := (true, "3b570ebb3907f8a774175a8dd4aa21fe73a4838eb402038a609bfb61670b2a41"), looks := false }, kinds := [], alts := [], laidByText := true, laidKinds := [.data, .data, .data], laidTests := true, laidLooks := .later }
def DeriveDrawsUptoCardSaid : Prop := Claim7.holds Tryd.pinned (.plain (OpenSpec.upto deriveDrawsSpec)) deriveDrawsUptoCard

/-- THE SECOND FORM's CARD OF 'traveldoclaw07.DeriveSecrets'. -/
def deriveSecretsUptoCard : Claim7 := { stood := { row := deriveSecretsUptoRow, standIns := [], harness := (true, "3b570ebb3907f8a774175a8dd4aa21fe73a4838eb402038a609bfb61670b2a41"), looks := false }, kinds := [], alts := [], laidByText := true, laidKinds := [.data, .data, .data], laidTests := true, laidLooks := .later }
def DeriveSecretsUptoCardSaid : Prop := Claim7.holds Tryd.pinned (.plain (OpenSpec.upto deriveSecretsSpec)) deriveSecretsUptoCard

/-- THE SECOND FORM's CARD OF 'traveldoclaw07.DeriveBegins'. -/
def deriveBeginsUptoCard : Claim7 := { stood := { row := deriveBeginsUptoRow, standIns := [], harness := (true, "3b570ebb3907f8a774175a8dd4aa21fe73a4838eb402038a609bfb61670b2a41"), looks := false }, kinds := [], alts := [], laidByText := true, laidKinds := [.data, .data], laidTests := true, laidLooks := .later }
def DeriveBeginsUptoCardSaid : Prop := Claim7.holds Tryd.pinned (.plain (OpenSpec.upto deriveBeginsSpec)) deriveBeginsUptoCard
end Rows
end Go.Proofs.YtdjmehinifnbhaaDoor
