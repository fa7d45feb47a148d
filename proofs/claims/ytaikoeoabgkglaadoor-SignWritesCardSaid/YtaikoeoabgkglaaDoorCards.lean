/-
  DERIVED. GIVEN WITH THE SEED: THE CARDS: each row of YtaikoeoabgkglaaDoorRows.lean that lists a variable, with what it lists TIED to the program's text (the seventh form; the later family's looks); each row that meets fmt, with fmt's text TOLD by the authors' own Lean function (tested against real Go, not proved from fmt's source: count such statements apart). THE CARD IS WHAT COUNTS. Prove the row's statement (the work); the ties are given (YtaikoeoabgkglaaDoorTie.lean); close each card by the builder's one call (the guide's Derived/Test/ToyasCard.lean, 'card_holds'). Laid BY PROGRAM, IN A SANDBOX (cutbox-door.mjs). By AI agents, Wed Nov 11 2026. No macro, syntax, notation, axiom, sorry.
-/
import Derived.Test.YtaikoeoabgkglaaDoorRows
import GoSem.ClaimSeven
namespace Go.Proofs.YtaikoeoabgkglaaDoor
namespace Rows

/-- THE TIED CARD OF 'traveldoclaw09.SignSigns'. -/
def signSignsCard : Claim7 := { stood := { row := signSignsRow, standIns := [], harness := (true, "94dd613e4003da2571494663d666ada80903dc4d7a1bf5efd73b27fb300d12b4"), looks := false }, kinds := [], alts := [], laidByText := true, laidKinds := [.data, .data, .data], laidTests := true, laidLooks := .later }
def SignSignsCardSaid : Prop := Claim7.holds Tryd.pinned (.plain (OpenSpec.ofChange signSignsSpec)) signSignsCard

/-- THE TIED CARD OF 'traveldoclaw09.SignVerifies'. -/
def signVerifiesCard : Claim7 := { stood := { row := signVerifiesRow, standIns := [], harness := (true, "94dd613e4003da2571494663d666ada80903dc4d7a1bf5efd73b27fb300d12b4"), looks := false }, kinds := [], alts := [], laidByText := true, laidKinds := [.data, .data, .data], laidTests := true, laidLooks := .later }
def SignVerifiesCardSaid : Prop := Claim7.holds Tryd.pinned (.plain (OpenSpec.ofChange signVerifiesSpec)) signVerifiesCard

/-- THE TIED CARD OF 'traveldoclaw09.SignVerifiesMade'. -/
def signVerifiesMadeCard : Claim7 := { stood := { row := signVerifiesMadeRow, standIns := [], harness := (true, "94dd613e4003da2571494663d666ada80903dc4d7a1bf5efd73b27fb300d12b4"), looks := false }, kinds := [], alts := [], laidByText := true, laidKinds := [.data, .data, .data], laidTests := true, laidLooks := .later }
def SignVerifiesMadeCardSaid : Prop := Claim7.holds Tryd.pinned (.plain (OpenSpec.ofChange signVerifiesMadeSpec)) signVerifiesMadeCard

/-- THE TIED CARD OF 'traveldoclaw09.SignWrites'. -/
def signWritesCard : Claim7 := { stood := { row := signWritesRow, standIns := [], harness := (true, "94dd613e4003da2571494663d666ada80903dc4d7a1bf5efd73b27fb300d12b4"), looks := false }, kinds := [], alts := [], laidByText := true, laidKinds := [.data, .data], laidTests := true, laidLooks := .later }
def SignWritesCardSaid : Prop := Claim7.holds Tryd.pinned (.plain (OpenSpec.ofChange signWritesSpec)) signWritesCard

/-- THE TIED CARD OF 'traveldoclaw09.SignRefuses'. -/
def signRefusesCard : Claim7 := { stood := { row := signRefusesRow, standIns := [], harness := (true, "94dd613e4003da2571494663d666ada80903dc4d7a1bf5efd73b27fb300d12b4"), looks := false }, kinds := [], alts := [], laidByText := true, laidKinds := [.data, .data], laidTests := true, laidLooks := .later }
def SignRefusesCardSaid : Prop := Claim7.holds Tryd.pinned (.plain (OpenSpec.ofChange signRefusesSpec)) signRefusesCard

/-- THE SECOND FORM's CARD OF 'traveldoclaw09.SignSigns'. -/
def signSignsUptoCard : Claim7 := { stood := { row := signSignsUptoRow, standIns := [], harness := (true, "94dd613e4003da2571494663d666ada80903dc4d7a1bf5efd73b27fb300d12b4"), looks := false }, kinds := [], alts := [], laidByText := true, laidKinds := [.data, .data, .data], laidTests := true, laidLooks := .later }
def SignSignsUptoCardSaid : Prop := Claim7.holds Tryd.pinned (.plain (OpenSpec.upto signSignsSpec)) signSignsUptoCard

/-- THE SECOND FORM's CARD OF 'traveldoclaw09.SignVerifies'. -/
def signVerifiesUptoCard : Claim7 := { stood := { row := signVerifiesUptoRow, standIns := [], harness := (true, "94dd613e4003da2571494663d666ada80903dc4d7a1bf5efd73b27fb300d12b4"), looks := false }, kinds := [], alts := [], laidByText := true, laidKinds := [.data, .data, .data], laidTests := true, laidLooks := .later }
def SignVerifiesUptoCardSaid : Prop := Claim7.holds Tryd.pinned (.plain (OpenSpec.upto signVerifiesSpec)) signVerifiesUptoCard

/-- THE SECOND FORM's CARD OF 'traveldoclaw09.SignVerifiesMade'. -/
def signVerifiesMadeUptoCard : Claim7 := { stood := { row := signVerifiesMadeUptoRow, standIns := [], harness := (true, "94dd613e4003da2571494663d666ada80903dc4d7a1bf5efd73b27fb300d12b4"), looks := false }, kinds := [], alts := [], laidByText := true, laidKinds := [.data, .data, .data], laidTests := true, laidLooks := .later }
def SignVerifiesMadeUptoCardSaid : Prop := Claim7.holds Tryd.pinned (.plain (OpenSpec.upto signVerifiesMadeSpec)) signVerifiesMadeUptoCard

/-- THE SECOND FORM's CARD OF 'traveldoclaw09.SignWrites'. -/
def signWritesUptoCard : Claim7 := { stood := { row := signWritesUptoRow, standIns := [], harness := (true, "94dd613e4003da2571494663d666ada80903dc4d7a1bf5efd73b27fb300d12b4"), looks := false }, kinds := [], alts := [], laidByText := true, laidKinds := [.data, .data], laidTests := true, laidLooks := .later }
def SignWritesUptoCardSaid : Prop := Claim7.holds Tryd.pinned (.plain (OpenSpec.upto signWritesSpec)) signWritesUptoCard

/-- THE SECOND FORM's CARD OF 'traveldoclaw09.SignRefuses'. -/
def signRefusesUptoCard : Claim7 := { stood := { row := signRefusesUptoRow, standIns := [], harness := (true, "94dd613e4003da2571494663d666ada80903dc4d7a1bf5efd73b27fb300d12b4"), looks := false }, kinds := [], alts := [], laidByText := true, laidKinds := [.data, .data], laidTests := true, laidLooks := .later }
def SignRefusesUptoCardSaid : Prop := Claim7.holds Tryd.pinned (.plain (OpenSpec.upto signRefusesSpec)) signRefusesUptoCard
end Rows
end Go.Proofs.YtaikoeoabgkglaaDoor
