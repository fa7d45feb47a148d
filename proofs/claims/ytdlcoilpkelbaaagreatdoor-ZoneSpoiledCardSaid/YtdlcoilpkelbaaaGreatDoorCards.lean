/-
  DERIVED. GIVEN WITH THE SEED: THE CARDS: each row of YtdlcoilpkelbaaaGreatDoorRows.lean that lists a variable, with what it lists TIED to the program's text (the seventh form; the later family's looks); each row that meets fmt, with fmt's text TOLD by the authors' own Lean function (tested against real Go, not proved from fmt's source: count such statements apart). THE CARD IS WHAT COUNTS. Prove the row's statement (the work); the ties are given (YtdlcoilpkelbaaaGreatDoorTie.lean); close each card by the builder's one call (the guide's Derived/Test/ToyasCard.lean, 'card_holds'). Laid BY PROGRAM, IN A SANDBOX (cutbox-door.mjs). By AI agents, Wed Nov 11 2026. No macro, syntax, notation, axiom, sorry.
-/
import Derived.Test.YtdlcoilpkelbaaaGreatDoorRows
import GoSem.ClaimSeven
namespace Go.Proofs.YtdlcoilpkelbaaaGreatDoor
namespace Rows

/-- THE TIED CARD OF 'traveldoclaw11.ZoneBuilds'. -/
def zoneBuildsCard : Claim7 := { stood := { row := zoneBuildsRow, standIns := [], harness := (true, "a9330d3b2465b24448948c8e3344c11826d14aca3e79f0f27ec16e74cf91e394"), looks := false }, kinds := [], alts := [], laidByText := true, laidKinds := [.data, .data, .data, .data, .data, .data, .data, .pinned], laidTests := true, laidLooks := .later }
def ZoneBuildsCardSaid : Prop := Claim7.holds Tryz.pinned (.plain (OpenSpec.ofChange zoneBuildsSpec)) zoneBuildsCard

/-- THE TIED CARD OF 'traveldoclaw11.ZoneParses'. -/
def zoneParsesCard : Claim7 := { stood := { row := zoneParsesRow, standIns := [], harness := (true, "a9330d3b2465b24448948c8e3344c11826d14aca3e79f0f27ec16e74cf91e394"), looks := false }, kinds := [], alts := [], laidByText := true, laidKinds := [.data, .data, .data, .data, .data, .data, .data, .pinned], laidTests := true, laidLooks := .later }
def ZoneParsesCardSaid : Prop := Claim7.holds Tryz.pinned (.plain (OpenSpec.ofChange zoneParsesSpec)) zoneParsesCard

/-- THE TIED CARD OF 'traveldoclaw11.ZoneMade'. -/
def zoneMadeCard : Claim7 := { stood := { row := zoneMadeRow, standIns := [], harness := (true, "a9330d3b2465b24448948c8e3344c11826d14aca3e79f0f27ec16e74cf91e394"), looks := false }, kinds := [], alts := [], laidByText := true, laidKinds := [.data, .data, .data, .data, .data, .data, .data, .pinned], laidTests := true, laidLooks := .later }
def ZoneMadeCardSaid : Prop := Claim7.holds Tryz.pinned (.plain (OpenSpec.ofChange zoneMadeSpec)) zoneMadeCard

/-- THE TIED CARD OF 'traveldoclaw11.ZoneReturns'. -/
def zoneReturnsCard : Claim7 := { stood := { row := zoneReturnsRow, standIns := [], harness := (true, "a9330d3b2465b24448948c8e3344c11826d14aca3e79f0f27ec16e74cf91e394"), looks := false }, kinds := [], alts := [], laidByText := true, laidKinds := [.data, .data, .data, .data, .data, .data, .data, .pinned], laidTests := true, laidLooks := .later }
def ZoneReturnsCardSaid : Prop := Claim7.holds Tryz.pinned (.plain (OpenSpec.ofChange zoneReturnsSpec)) zoneReturnsCard

/-- THE TIED CARD OF 'traveldoclaw11.ZoneSpoiled'. -/
def zoneSpoiledCard : Claim7 := { stood := { row := zoneSpoiledRow, standIns := [], harness := (true, "a9330d3b2465b24448948c8e3344c11826d14aca3e79f0f27ec16e74cf91e394"), looks := false }, kinds := [], alts := [], laidByText := true, laidKinds := [.data, .data, .data, .data, .data, .data, .data, .pinned], laidTests := true, laidLooks := .later }
def ZoneSpoiledCardSaid : Prop := Claim7.holds Tryz.pinned (.plain (OpenSpec.ofChange zoneSpoiledSpec)) zoneSpoiledCard

/-- THE TIED CARD OF 'traveldoclaw11.ZoneNotices'. -/
def zoneNoticesCard : Claim7 := { stood := { row := zoneNoticesRow, standIns := [], harness := (true, "a9330d3b2465b24448948c8e3344c11826d14aca3e79f0f27ec16e74cf91e394"), looks := false }, kinds := [], alts := [], laidByText := true, laidKinds := [.data, .data, .data, .data, .data, .data, .data, .pinned], laidTests := true, laidLooks := .later }
def ZoneNoticesCardSaid : Prop := Claim7.holds Tryz.pinned (.plain (OpenSpec.ofChange zoneNoticesSpec)) zoneNoticesCard

/-- THE TIED CARD OF 'traveldoclaw11.ZoneKeys'. -/
def zoneKeysCard : Claim7 := { stood := { row := zoneKeysRow, standIns := [], harness := (true, "a9330d3b2465b24448948c8e3344c11826d14aca3e79f0f27ec16e74cf91e394"), looks := false }, kinds := [], alts := [], laidByText := true, laidKinds := [.data, .data, .data, .data, .data, .data, .data, .pinned], laidTests := true, laidLooks := .later }
def ZoneKeysCardSaid : Prop := Claim7.holds Tryz.pinned (.plain (OpenSpec.ofChange zoneKeysSpec)) zoneKeysCard

/-- THE SECOND FORM's CARD OF 'traveldoclaw11.ZoneBuilds'. -/
def zoneBuildsUptoCard : Claim7 := { stood := { row := zoneBuildsUptoRow, standIns := [], harness := (true, "a9330d3b2465b24448948c8e3344c11826d14aca3e79f0f27ec16e74cf91e394"), looks := false }, kinds := [], alts := [], laidByText := true, laidKinds := [.data, .data, .data, .data, .data, .data, .data, .pinned], laidTests := true, laidLooks := .later }
def ZoneBuildsUptoCardSaid : Prop := Claim7.holds Tryz.pinned (.plain (OpenSpec.upto zoneBuildsSpec)) zoneBuildsUptoCard

/-- THE SECOND FORM's CARD OF 'traveldoclaw11.ZoneParses'. -/
def zoneParsesUptoCard : Claim7 := { stood := { row := zoneParsesUptoRow, standIns := [], harness := (true, "a9330d3b2465b24448948c8e3344c11826d14aca3e79f0f27ec16e74cf91e394"), looks := false }, kinds := [], alts := [], laidByText := true, laidKinds := [.data, .data, .data, .data, .data, .data, .data, .pinned], laidTests := true, laidLooks := .later }
def ZoneParsesUptoCardSaid : Prop := Claim7.holds Tryz.pinned (.plain (OpenSpec.upto zoneParsesSpec)) zoneParsesUptoCard

/-- THE SECOND FORM's CARD OF 'traveldoclaw11.ZoneMade'. -/
def zoneMadeUptoCard : Claim7 := { stood := { row := zoneMadeUptoRow, standIns := [], harness := (true, "a9330d3b2465b24448948c8e3344c11826d14aca3e79f0f27ec16e74cf91e394"), looks := false }, kinds := [], alts := [], laidByText := true, laidKinds := [.data, .data, .data, .data, .data, .data, .data, .pinned], laidTests := true, laidLooks := .later }
def ZoneMadeUptoCardSaid : Prop := Claim7.holds Tryz.pinned (.plain (OpenSpec.upto zoneMadeSpec)) zoneMadeUptoCard

/-- THE SECOND FORM's CARD OF 'traveldoclaw11.ZoneReturns'. -/
def zoneReturnsUptoCard : Claim7 := { stood := { row := zoneReturnsUptoRow, standIns := [], harness := (true, "a9330d3b2465b24448948c8e3344c11826d14aca3e79f0f27ec16e74cf91e394"), looks := false }, kinds := [], alts := [], laidByText := true, laidKinds := [.data, .data, .data, .data, .data, .data, .data, .pinned], laidTests := true, laidLooks := .later }
def ZoneReturnsUptoCardSaid : Prop := Claim7.holds Tryz.pinned (.plain (OpenSpec.upto zoneReturnsSpec)) zoneReturnsUptoCard

/-- THE SECOND FORM's CARD OF 'traveldoclaw11.ZoneSpoiled'. -/
def zoneSpoiledUptoCard : Claim7 := { stood := { row := zoneSpoiledUptoRow, standIns := [], harness := (true, "a9330d3b2465b24448948c8e3344c11826d14aca3e79f0f27ec16e74cf91e394"), looks := false }, kinds := [], alts := [], laidByText := true, laidKinds := [.data, .data, .data, .data, .data, .data, .data, .pinned], laidTests := true, laidLooks := .later }
def ZoneSpoiledUptoCardSaid : Prop := Claim7.holds Tryz.pinned (.plain (OpenSpec.upto zoneSpoiledSpec)) zoneSpoiledUptoCard

/-- THE SECOND FORM's CARD OF 'traveldoclaw11.ZoneNotices'. -/
def zoneNoticesUptoCard : Claim7 := { stood := { row := zoneNoticesUptoRow, standIns := [], harness := (true, "a9330d3b2465b24448948c8e3344c11826d14aca3e79f0f27ec16e74cf91e394"), looks := false }, kinds := [], alts := [], laidByText := true, laidKinds := [.data, .data, .data, .data, .data, .data, .data, .pinned], laidTests := true, laidLooks := .later }
def ZoneNoticesUptoCardSaid : Prop := Claim7.holds Tryz.pinned (.plain (OpenSpec.upto zoneNoticesSpec)) zoneNoticesUptoCard

/-- THE SECOND FORM's CARD OF 'traveldoclaw11.ZoneKeys'. -/
def zoneKeysUptoCard : Claim7 := { stood := { row := zoneKeysUptoRow, standIns := [], harness := (true, "a9330d3b2465b24448948c8e3344c11826d14aca3e79f0f27ec16e74cf91e394"), looks := false }, kinds := [], alts := [], laidByText := true, laidKinds := [.data, .data, .data, .data, .data, .data, .data, .pinned], laidTests := true, laidLooks := .later }
def ZoneKeysUptoCardSaid : Prop := Claim7.holds Tryz.pinned (.plain (OpenSpec.upto zoneKeysSpec)) zoneKeysUptoCard
end Rows
end Go.Proofs.YtdlcoilpkelbaaaGreatDoor
