/-
  DERIVED. GIVEN WITH THE SEED: THE CARDS: each row of YtnnmbpghkflepaaDoorRows.lean that lists a variable, with what it lists TIED to the program's text (the seventh form; the later family's looks); each row that meets fmt, with fmt's text TOLD by the authors' own Lean function (tested against real Go, not proved from fmt's source: count such statements apart). THE CARD IS WHAT COUNTS. Prove the row's statement (the work); the ties are given (YtnnmbpghkflepaaDoorTie.lean); close each card by the builder's one call (the guide's Derived/Test/ToyasCard.lean, 'card_holds'). Laid BY PROGRAM, IN A SANDBOX (cutbox-door.mjs). By AI agents, Wed Nov 11 2026. No macro, syntax, notation, axiom, sorry.
-/
import Derived.Test.YtnnmbpghkflepaaDoorRows
import GoSem.ClaimSeven
namespace Go.Proofs.YtnnmbpghkflepaaDoor
namespace Rows

/-- THE TIED CARD OF 'porticolaw8.RouteRuns'. -/
def routeRunsCard : Claim7 := { stood := { row := routeRunsRow, standIns := [], harness := (true, "434bc02bc0f711e0eb8e5dc0e7bdfd25b8310322b8c644adc482418f3c5448ed"), looks := false }, kinds := [], alts := [], laidByText := true, laidKinds := [.data, .pinned], laidTests := true, laidLooks := .later }
def RouteRunsCardSaid : Prop := Claim7.holds Tryd.pinned (.plain (OpenSpec.ofChange routeRunsSpec)) routeRunsCard

/-- THE SECOND FORM's CARD OF 'porticolaw8.RouteRuns'. -/
def routeRunsUptoCard : Claim7 := { stood := { row := routeRunsUptoRow, standIns := [], harness := (true, "434bc02bc0f711e0eb8e5dc0e7bdfd25b8310322b8c644adc482418f3c5448ed"), looks := false }, kinds := [], alts := [], laidByText := true, laidKinds := [.data, .pinned], laidTests := true, laidLooks := .later }
def RouteRunsUptoCardSaid : Prop := Claim7.holds Tryd.pinned (.plain (OpenSpec.upto routeRunsSpec)) routeRunsUptoCard
end Rows
end Go.Proofs.YtnnmbpghkflepaaDoor
