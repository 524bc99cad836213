/-
  DERIVED. GIVEN WITH THE SEED: THE CARDS: each row of YtdlljccabkmfiaaDoorRows.lean that lists a variable, with what it lists TIED to the program's text (the seventh form; the later family's looks); each row that meets fmt, with fmt's text TOLD by the authors' own Lean function (tested against real Go, not proved from fmt's source: count such statements apart). THE CARD IS WHAT COUNTS. Prove the row's statement (the work); the ties are given (YtdlljccabkmfiaaDoorTie.lean); close each card by the builder's one call (the guide's Derived/Test/ToyasCard.lean, 'card_holds'). Laid BY PROGRAM, IN A SANDBOX (cutbox-door.mjs). By AI agents, Wed Nov 11 2026. No macro, syntax, notation, axiom, sorry.
-/
import Derived.Test.YtdlljccabkmfiaaDoorRows
import GoSem.ClaimSeven
namespace Go.Proofs.YtdlljccabkmfiaaDoor
namespace Rows

/-- THE TIED CARD OF 'porticolaw5.PatternRuns'. -/
def patternRunsCard : Claim7 := { stood := { row := patternRunsRow, standIns := [], harness := (true, "2f502ed434e22b8d57c10f08f5b8293b436e6569d5b81e333e884c79737c58b1"), looks := false }, kinds := [], alts := [], laidByText := true, laidKinds := [.data, .pinned], laidTests := true, laidLooks := .later }
def PatternRunsCardSaid : Prop := Claim7.holds Tryd.pinned (.plain (OpenSpec.ofChange patternRunsSpec)) patternRunsCard

/-- THE TIED CARD OF 'porticolaw5.PatternTells'. -/
def patternTellsCard : Claim7 := { stood := { row := patternTellsRow, standIns := [], harness := (true, "2f502ed434e22b8d57c10f08f5b8293b436e6569d5b81e333e884c79737c58b1"), looks := false }, kinds := [], alts := [], laidByText := true, laidKinds := [.data, .pinned], laidTests := true, laidLooks := .later }
def PatternTellsCardSaid : Prop := Claim7.holds Tryd.pinned (.plain (OpenSpec.ofChange patternTellsSpec)) patternTellsCard

/-- THE TIED CARD OF 'porticolaw5.PatternBack'. -/
def patternBackCard : Claim7 := { stood := { row := patternBackRow, standIns := [], harness := (true, "2f502ed434e22b8d57c10f08f5b8293b436e6569d5b81e333e884c79737c58b1"), looks := false }, kinds := [], alts := [], laidByText := true, laidKinds := [.data, .pinned], laidTests := true, laidLooks := .later }
def PatternBackCardSaid : Prop := Claim7.holds Tryd.pinned (.plain (OpenSpec.ofChange patternBackSpec)) patternBackCard

/-- THE TIED CARD OF 'porticolaw5.PatternText'. -/
def patternTextCard : Claim7 := { stood := { row := patternTextRow, standIns := [], harness := (true, "2f502ed434e22b8d57c10f08f5b8293b436e6569d5b81e333e884c79737c58b1"), looks := false }, kinds := [], alts := [], laidByText := true, laidKinds := [.data, .pinned], laidTests := true, laidLooks := .later }
def PatternTextCardSaid : Prop := Claim7.holds Tryd.pinned (.plain (OpenSpec.ofChange patternTextSpec)) patternTextCard

/-- THE SECOND FORM's CARD OF 'porticolaw5.PatternRuns'. -/
def patternRunsUptoCard : Claim7 := { stood := { row := patternRunsUptoRow, standIns := [], harness := (true, "2f502ed434e22b8d57c10f08f5b8293b436e6569d5b81e333e884c79737c58b1"), looks := false }, kinds := [], alts := [], laidByText := true, laidKinds := [.data, .pinned], laidTests := true, laidLooks := .later }
def PatternRunsUptoCardSaid : Prop := Claim7.holds Tryd.pinned (.plain (OpenSpec.upto patternRunsSpec)) patternRunsUptoCard

/-- THE SECOND FORM's CARD OF 'porticolaw5.PatternTells'. -/
def patternTellsUptoCard : Claim7 := { stood := { row := patternTellsUptoRow, standIns := [], harness := (true, "2f502ed434e22b8d57c10f08f5b8293b436e6569d5b81e333e884c79737c58b1"), looks := false }, kinds := [], alts := [], laidByText := true, laidKinds := [.data, .pinned], laidTests := true, laidLooks := .later }
def PatternTellsUptoCardSaid : Prop := Claim7.holds Tryd.pinned (.plain (OpenSpec.upto patternTellsSpec)) patternTellsUptoCard

/-- THE SECOND FORM's CARD OF 'porticolaw5.PatternBack'. -/
def patternBackUptoCard : Claim7 := { stood := { row := patternBackUptoRow, standIns := [], harness := (true, "2f502ed434e22b8d57c10f08f5b8293b436e6569d5b81e333e884c79737c58b1"), looks := false }, kinds := [], alts := [], laidByText := true, laidKinds := [.data, .pinned], laidTests := true, laidLooks := .later }
def PatternBackUptoCardSaid : Prop := Claim7.holds Tryd.pinned (.plain (OpenSpec.upto patternBackSpec)) patternBackUptoCard

/-- THE SECOND FORM's CARD OF 'porticolaw5.PatternText'. -/
def patternTextUptoCard : Claim7 := { stood := { row := patternTextUptoRow, standIns := [], harness := (true, "2f502ed434e22b8d57c10f08f5b8293b436e6569d5b81e333e884c79737c58b1"), looks := false }, kinds := [], alts := [], laidByText := true, laidKinds := [.data, .pinned], laidTests := true, laidLooks := .later }
def PatternTextUptoCardSaid : Prop := Claim7.holds Tryd.pinned (.plain (OpenSpec.upto patternTextSpec)) patternTextUptoCard
end Rows
end Go.Proofs.YtdlljccabkmfiaaDoor
