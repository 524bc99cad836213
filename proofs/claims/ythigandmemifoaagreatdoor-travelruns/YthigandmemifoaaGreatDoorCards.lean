/-
  DERIVED. GIVEN WITH THE SEED: THE CARDS: each row of YthigandmemifoaaGreatDoorRows.lean that lists a variable, with what it lists TIED to the program's text (the seventh form; the later family's looks); each row that meets fmt, with fmt's text TOLD by the authors' own Lean function (tested against real Go, not proved from fmt's source: count such statements apart). THE CARD IS WHAT COUNTS. Prove the row's statement (the work); the ties are given (YthigandmemifoaaGreatDoorTie.lean); close each card by the builder's one call (the guide's Derived/Test/ToyasCard.lean, 'card_holds'). Laid BY PROGRAM, IN A SANDBOX (cutbox-door.mjs). By AI agents, Wed Nov 11 2026. No macro, syntax, notation, axiom, sorry.
-/
import Derived.Test.YthigandmemifoaaGreatDoorRows
import GoSem.ClaimSeven
namespace Go.Proofs.YthigandmemifoaaGreatDoor
namespace Rows

/-- THE TIED CARD OF 'porticolaw10.TravelRuns'. -/
def travelRunsCard : Claim7 := { stood := { row := travelRunsRow, standIns := [], harness := (true, "caa6599defd3db87e3b068cd9d11415b27085c8dac7232b79120e737344ed44c"), looks := false }, kinds := [], alts := [], laidByText := true, laidKinds := [.data, .pinned], laidTests := true, laidLooks := .later }
def TravelRunsCardSaid : Prop := Claim7.holds Tryz.pinned (.plain (OpenSpec.ofChange travelRunsSpec)) travelRunsCard

/-- THE TIED CARD OF 'porticolaw10.TravelGoes'. -/
def travelGoesCard : Claim7 := { stood := { row := travelGoesRow, standIns := [], harness := (true, "caa6599defd3db87e3b068cd9d11415b27085c8dac7232b79120e737344ed44c"), looks := false }, kinds := [], alts := [], laidByText := true, laidKinds := [.data, .pinned], laidTests := true, laidLooks := .later }
def TravelGoesCardSaid : Prop := Claim7.holds Tryz.pinned (.plain (OpenSpec.ofChange travelGoesSpec)) travelGoesCard

/-- THE TIED CARD OF 'porticolaw10.TravelArrives'. -/
def travelArrivesCard : Claim7 := { stood := { row := travelArrivesRow, standIns := [], harness := (true, "caa6599defd3db87e3b068cd9d11415b27085c8dac7232b79120e737344ed44c"), looks := false }, kinds := [], alts := [], laidByText := true, laidKinds := [.data, .pinned], laidTests := true, laidLooks := .later }
def TravelArrivesCardSaid : Prop := Claim7.holds Tryz.pinned (.plain (OpenSpec.ofChange travelArrivesSpec)) travelArrivesCard

/-- THE TIED CARD OF 'porticolaw10.TravelFlags'. -/
def travelFlagsCard : Claim7 := { stood := { row := travelFlagsRow, standIns := [], harness := (true, "caa6599defd3db87e3b068cd9d11415b27085c8dac7232b79120e737344ed44c"), looks := false }, kinds := [], alts := [], laidByText := true, laidKinds := [.data, .pinned], laidTests := true, laidLooks := .later }
def TravelFlagsCardSaid : Prop := Claim7.holds Tryz.pinned (.plain (OpenSpec.ofChange travelFlagsSpec)) travelFlagsCard

/-- THE SECOND FORM's CARD OF 'porticolaw10.TravelRuns'. -/
def travelRunsUptoCard : Claim7 := { stood := { row := travelRunsUptoRow, standIns := [], harness := (true, "caa6599defd3db87e3b068cd9d11415b27085c8dac7232b79120e737344ed44c"), looks := false }, kinds := [], alts := [], laidByText := true, laidKinds := [.data, .pinned], laidTests := true, laidLooks := .later }
def TravelRunsUptoCardSaid : Prop := Claim7.holds Tryz.pinned (.plain (OpenSpec.upto travelRunsSpec)) travelRunsUptoCard

/-- THE SECOND FORM's CARD OF 'porticolaw10.TravelGoes'. -/
def travelGoesUptoCard : Claim7 := { stood := { row := travelGoesUptoRow, standIns := [], harness := (true, "caa6599defd3db87e3b068cd9d11415b27085c8dac7232b79120e737344ed44c"), looks := false }, kinds := [], alts := [], laidByText := true, laidKinds := [.data, .pinned], laidTests := true, laidLooks := .later }
def TravelGoesUptoCardSaid : Prop := Claim7.holds Tryz.pinned (.plain (OpenSpec.upto travelGoesSpec)) travelGoesUptoCard

/-- THE SECOND FORM's CARD OF 'porticolaw10.TravelArrives'. -/
def travelArrivesUptoCard : Claim7 := { stood := { row := travelArrivesUptoRow, standIns := [], harness := (true, "caa6599defd3db87e3b068cd9d11415b27085c8dac7232b79120e737344ed44c"), looks := false }, kinds := [], alts := [], laidByText := true, laidKinds := [.data, .pinned], laidTests := true, laidLooks := .later }
def TravelArrivesUptoCardSaid : Prop := Claim7.holds Tryz.pinned (.plain (OpenSpec.upto travelArrivesSpec)) travelArrivesUptoCard

/-- THE SECOND FORM's CARD OF 'porticolaw10.TravelFlags'. -/
def travelFlagsUptoCard : Claim7 := { stood := { row := travelFlagsUptoRow, standIns := [], harness := (true, "caa6599defd3db87e3b068cd9d11415b27085c8dac7232b79120e737344ed44c"), looks := false }, kinds := [], alts := [], laidByText := true, laidKinds := [.data, .pinned], laidTests := true, laidLooks := .later }
def TravelFlagsUptoCardSaid : Prop := Claim7.holds Tryz.pinned (.plain (OpenSpec.upto travelFlagsSpec)) travelFlagsUptoCard
end Rows
end Go.Proofs.YthigandmemifoaaGreatDoor
