/-
  DERIVED. GIVEN WITH THE SEED: THE CARDS: each row of YtnnmbpghkflepaaGreatDoorRows.lean that lists a variable, with what it lists TIED to the program's text (the seventh form; the later family's looks); each row that meets fmt, with fmt's text TOLD by the authors' own Lean function (tested against real Go, not proved from fmt's source: count such statements apart). THE CARD IS WHAT COUNTS. Prove the row's statement (the work); the ties are given (YtnnmbpghkflepaaGreatDoorTie.lean); close each card by the builder's one call (the guide's Derived/Test/ToyasCard.lean, 'card_holds'). Laid BY PROGRAM, IN A SANDBOX (cutbox-door.mjs). By AI agents, Wed Nov 11 2026. No macro, syntax, notation, axiom, sorry.
-/
import Derived.Test.YtnnmbpghkflepaaGreatDoorRows
import GoSem.ClaimSeven
namespace Go.Proofs.YtnnmbpghkflepaaGreatDoor
namespace Rows

/-- THE TIED CARD OF 'porticolaw8.RouteTells'. -/
def routeTellsCard : Claim7 := { stood := { row := routeTellsRow, standIns := [], harness := (true, "0ae8910cfe3349612c02fce31d7170476c52d8a320e54a07ab8496834b7db14b"), looks := false }, kinds := [], alts := [], laidByText := true, laidKinds := [.data, .pinned], laidTests := true, laidLooks := .later }
def RouteTellsCardSaid : Prop := Claim7.holds Tryz.pinned (.plain (OpenSpec.ofChange routeTellsSpec)) routeTellsCard

/-- THE TIED CARD OF 'porticolaw8.RouteChains'. -/
def routeChainsCard : Claim7 := { stood := { row := routeChainsRow, standIns := [], harness := (true, "0ae8910cfe3349612c02fce31d7170476c52d8a320e54a07ab8496834b7db14b"), looks := false }, kinds := [], alts := [], laidByText := true, laidKinds := [.data, .pinned], laidTests := true, laidLooks := .later }
def RouteChainsCardSaid : Prop := Claim7.holds Tryz.pinned (.plain (OpenSpec.ofChange routeChainsSpec)) routeChainsCard

/-- THE TIED CARD OF 'porticolaw8.RouteTurned'. -/
def routeTurnedCard : Claim7 := { stood := { row := routeTurnedRow, standIns := [], harness := (true, "0ae8910cfe3349612c02fce31d7170476c52d8a320e54a07ab8496834b7db14b"), looks := false }, kinds := [], alts := [], laidByText := true, laidKinds := [.data, .pinned], laidTests := true, laidLooks := .later }
def RouteTurnedCardSaid : Prop := Claim7.holds Tryz.pinned (.plain (OpenSpec.ofChange routeTurnedSpec)) routeTurnedCard

/-- THE SECOND FORM's CARD OF 'porticolaw8.RouteTells'. -/
def routeTellsUptoCard : Claim7 := { stood := { row := routeTellsUptoRow, standIns := [], harness := (true, "0ae8910cfe3349612c02fce31d7170476c52d8a320e54a07ab8496834b7db14b"), looks := false }, kinds := [], alts := [], laidByText := true, laidKinds := [.data, .pinned], laidTests := true, laidLooks := .later }
def RouteTellsUptoCardSaid : Prop := Claim7.holds Tryz.pinned (.plain (OpenSpec.upto routeTellsSpec)) routeTellsUptoCard

/-- THE SECOND FORM's CARD OF 'porticolaw8.RouteChains'. -/
def routeChainsUptoCard : Claim7 := { stood := { row := routeChainsUptoRow, standIns := [], harness := (true, "0ae8910cfe3349612c02fce31d7170476c52d8a320e54a07ab8496834b7db14b"), looks := false }, kinds := [], alts := [], laidByText := true, laidKinds := [.data, .pinned], laidTests := true, laidLooks := .later }
def RouteChainsUptoCardSaid : Prop := Claim7.holds Tryz.pinned (.plain (OpenSpec.upto routeChainsSpec)) routeChainsUptoCard

/-- THE SECOND FORM's CARD OF 'porticolaw8.RouteTurned'. -/
def routeTurnedUptoCard : Claim7 := { stood := { row := routeTurnedUptoRow, standIns := [], harness := (true, "0ae8910cfe3349612c02fce31d7170476c52d8a320e54a07ab8496834b7db14b"), looks := false }, kinds := [], alts := [], laidByText := true, laidKinds := [.data, .pinned], laidTests := true, laidLooks := .later }
def RouteTurnedUptoCardSaid : Prop := Claim7.holds Tryz.pinned (.plain (OpenSpec.upto routeTurnedSpec)) routeTurnedUptoCard
end Rows
end Go.Proofs.YtnnmbpghkflepaaGreatDoor
