/-
  NARROWER THAN 'FOR EVERY INPUT', by the rows' own cells (each row's printed sentence says how): TravelRuns: laid · TravelGoes: laid · TravelArrives: laid · TravelFlags: laid.
  DERIVED. THE GIVEN ROWS OF THIS SEAT. 4 by the template 'for every input the law returns true; each argument reads behind the call as it read before'; 0 by the template 'total and deterministic' (their statements: YthigandmemifoaaGreatDoorTotals.lean).
  GIVEN WITH THE SEED: the statements are not yours to turn. If you find one false, say at which input.
  Laid BY PROGRAM, IN A SANDBOX (cutbox-rows.mjs): the forced cells as the released guide's own fill.sh prints them over the translation bf19d65f6b9f1fe8… (all of the seat's roots in one cut). By AI agents, Wed Nov 11 2026. No macro, syntax, notation, axiom, sorry.
-/
import Derived.Test.YthigandmemifoaaGreatDoorChecked
import GoSem.PinnedTables
import GoSem.Claim
import GoSem.ClaimJoined
import GoSem.ClaimMapViews
import Derived.JoinedTies
import Derived.KernelRfl
namespace Go.Proofs.YthigandmemifoaaGreatDoor
/- THE CELL 'sum', in the pinned program and in every row, IS THE sha256 OF THE DUMP (.gsa) THAT YthigandmemifoaaGreatDoorProg.lean LOADS. Nothing in Lean hashes anything: it is a label: what it is worth is what the hold of that sum in a sandbox is worth. -/
noncomputable def Tryz.pinned : Pinned := { name := "ythigandmemifoaagreatdoor", sum := "bf19d65f6b9f1fe8019789a7ff2c343046abf122ce694df016e22577ebbb2872", checked := Tryz.checked }
namespace Rows
def none {H : Type} : Left H := { results := [], args := [] }

/- WHAT THE LISTED PACKAGE-LEVEL VARIABLES READ AS WHEN THE CALL BEGINS. Each datum BY PROGRAM (the guide's laid-datum.mjs) off the statement by which the dump's own 'gosem.cut.vars' lays the variable. In a bare row this is a premise. The card (YthigandmemifoaaGreatDoorCards.lean) ties it to the program's text. -/
def laid_unicode_utf8_acceptRanges {H : Type} : DataW H := .agg [.agg [.lit (.int .u8 128), .lit (.int .u8 191)], .agg [.lit (.int .u8 160), .lit (.int .u8 191)], .agg [.lit (.int .u8 128), .lit (.int .u8 159)], .agg [.lit (.int .u8 144), .lit (.int .u8 191)], .agg [.lit (.int .u8 128), .lit (.int .u8 143)], .agg [.lit (.int .u8 0), .lit (.int .u8 0)], .agg [.lit (.int .u8 0), .lit (.int .u8 0)], .agg [.lit (.int .u8 0), .lit (.int .u8 0)], .agg [.lit (.int .u8 0), .lit (.int .u8 0)], .agg [.lit (.int .u8 0), .lit (.int .u8 0)], .agg [.lit (.int .u8 0), .lit (.int .u8 0)], .agg [.lit (.int .u8 0), .lit (.int .u8 0)], .agg [.lit (.int .u8 0), .lit (.int .u8 0)], .agg [.lit (.int .u8 0), .lit (.int .u8 0)], .agg [.lit (.int .u8 0), .lit (.int .u8 0)], .agg [.lit (.int .u8 0), .lit (.int .u8 0)]]
/-- One of Go's own tables, pinned by name: the form's constant. -/
def laid_unicode_utf8_first : DataW Unit := Go.Pinned.utf8First

/-- 'porticolaw10.TravelRuns': WHATEVER THE INPUT: true; the input reads as it did. -/
def travelRunsSpec : ChangeSpec := { name := "travelRuns", fn := fun _ => fun
  | [] => { results := [.lit (.bool true)], args := [] }
  | _ => none }
def travelRunsRow : OpenClaim := { program := "ythigandmemifoaagreatdoor", sum := "bf19d65f6b9f1fe8019789a7ff2c343046abf122ce694df016e22577ebbb2872", func := "portico/porticolaw10.TravelRuns", spec := "travelRuns", inPlace := ["internal/abi.NoEscape", "internal/bytealg.MakeNoZero", "internal/bytealg.CountString", "internal/bytealg.IndexByteString", "internal/bytealg.IndexString"], unfollowed := true, recurses := true, named := ["unicode/utf8.first", "unicode/utf8.acceptRanges", "internal/bytealg.MaxLen"], apart := false, laid := [("unicode/utf8.acceptRanges", laid_unicode_utf8_acceptRanges), ("unicode/utf8.first", laid_unicode_utf8_first)] }
def TravelRunsSaid : Prop := travelRunsRow.holds Tryz.pinned (OpenSpec.ofChange travelRunsSpec)

/-- ITS FALSE NEIGHBOUR: 'it returns false'. Refute it at one input. -/
def travelRunsWrong : ChangeSpec := { name := "travelRuns", fn := fun _ => fun
  | [] => { results := [.lit (.bool false)], args := [] }
  | _ => none }
def TravelRunsWrongFalsely : Prop := travelRunsRow.holds Tryz.pinned (OpenSpec.ofChange travelRunsWrong)

/-- 'porticolaw10.TravelGoes': WHATEVER THE INPUT: true; the input reads as it did. -/
def travelGoesSpec : ChangeSpec := { name := "travelGoes", fn := fun _ => fun
  | [d1, d2, d3, d4, d5] => { results := [.lit (.bool true)], args := [d1, d2, d3, d4, d5] }
  | _ => none }
def travelGoesRow : OpenClaim := { program := "ythigandmemifoaagreatdoor", sum := "bf19d65f6b9f1fe8019789a7ff2c343046abf122ce694df016e22577ebbb2872", func := "portico/porticolaw10.TravelGoes", spec := "travelGoes", inPlace := ["internal/abi.NoEscape", "internal/bytealg.MakeNoZero", "internal/bytealg.CountString", "internal/bytealg.IndexByteString", "internal/bytealg.IndexString"], unfollowed := true, recurses := true, named := ["unicode/utf8.first", "unicode/utf8.acceptRanges", "internal/bytealg.MaxLen"], apart := false, laid := [("unicode/utf8.acceptRanges", laid_unicode_utf8_acceptRanges), ("unicode/utf8.first", laid_unicode_utf8_first)] }
def TravelGoesSaid : Prop := travelGoesRow.holds Tryz.pinned (OpenSpec.ofChange travelGoesSpec)

/-- ITS FALSE NEIGHBOUR: 'it returns false'. Refute it at one input. -/
def travelGoesWrong : ChangeSpec := { name := "travelGoes", fn := fun _ => fun
  | [d1, d2, d3, d4, d5] => { results := [.lit (.bool false)], args := [d1, d2, d3, d4, d5] }
  | _ => none }
def TravelGoesWrongFalsely : Prop := travelGoesRow.holds Tryz.pinned (OpenSpec.ofChange travelGoesWrong)

/-- 'porticolaw10.TravelArrives': WHATEVER THE INPUT: true; the input reads as it did. -/
def travelArrivesSpec : ChangeSpec := { name := "travelArrives", fn := fun _ => fun
  | [d1, d2, d3, d4] => { results := [.lit (.bool true)], args := [d1, d2, d3, d4] }
  | _ => none }
def travelArrivesRow : OpenClaim := { program := "ythigandmemifoaagreatdoor", sum := "bf19d65f6b9f1fe8019789a7ff2c343046abf122ce694df016e22577ebbb2872", func := "portico/porticolaw10.TravelArrives", spec := "travelArrives", inPlace := ["internal/abi.NoEscape", "internal/bytealg.MakeNoZero", "internal/bytealg.CountString", "internal/bytealg.IndexByteString", "internal/bytealg.IndexString"], unfollowed := true, recurses := true, named := ["unicode/utf8.first", "unicode/utf8.acceptRanges", "internal/bytealg.MaxLen"], apart := false, laid := [("unicode/utf8.acceptRanges", laid_unicode_utf8_acceptRanges), ("unicode/utf8.first", laid_unicode_utf8_first)] }
def TravelArrivesSaid : Prop := travelArrivesRow.holds Tryz.pinned (OpenSpec.ofChange travelArrivesSpec)

/-- ITS FALSE NEIGHBOUR: 'it returns false'. Refute it at one input. -/
def travelArrivesWrong : ChangeSpec := { name := "travelArrives", fn := fun _ => fun
  | [d1, d2, d3, d4] => { results := [.lit (.bool false)], args := [d1, d2, d3, d4] }
  | _ => none }
def TravelArrivesWrongFalsely : Prop := travelArrivesRow.holds Tryz.pinned (OpenSpec.ofChange travelArrivesWrong)

/-- 'porticolaw10.TravelFlags': WHATEVER THE INPUT: true; the input reads as it did. -/
def travelFlagsSpec : ChangeSpec := { name := "travelFlags", fn := fun _ => fun
  | [d1, d2, d3, d4, d5] => { results := [.lit (.bool true)], args := [d1, d2, d3, d4, d5] }
  | _ => none }
def travelFlagsRow : OpenClaim := { program := "ythigandmemifoaagreatdoor", sum := "bf19d65f6b9f1fe8019789a7ff2c343046abf122ce694df016e22577ebbb2872", func := "portico/porticolaw10.TravelFlags", spec := "travelFlags", inPlace := ["internal/abi.NoEscape", "internal/bytealg.MakeNoZero", "internal/bytealg.CountString", "internal/bytealg.IndexByteString", "internal/bytealg.IndexString"], unfollowed := true, recurses := true, named := ["unicode/utf8.first", "unicode/utf8.acceptRanges", "internal/bytealg.MaxLen"], apart := false, laid := [("unicode/utf8.acceptRanges", laid_unicode_utf8_acceptRanges), ("unicode/utf8.first", laid_unicode_utf8_first)] }
def TravelFlagsSaid : Prop := travelFlagsRow.holds Tryz.pinned (OpenSpec.ofChange travelFlagsSpec)

/-- ITS FALSE NEIGHBOUR: 'it returns false'. Refute it at one input. -/
def travelFlagsWrong : ChangeSpec := { name := "travelFlags", fn := fun _ => fun
  | [d1, d2, d3, d4, d5] => { results := [.lit (.bool false)], args := [d1, d2, d3, d4, d5] }
  | _ => none }
def TravelFlagsWrongFalsely : Prop := travelFlagsRow.holds Tryz.pinned (OpenSpec.ofChange travelFlagsWrong)

/- THE SECOND FORM. 'bulk': how many values and letters a reading holds, each counted each time it is reached (what is shared counts as often as it is met; a slice's spare places count too). A statement '..UptoSaid' is the law's where the arguments, and the package variables that the reading takes, are together of bulk at most 1048576: NARROWER than '..Said'. Prove '..Said' where nothing that the law and all that it calls make is longer than what came in: it says more and counts as full. Else prove '..UptoSaid'. A law counts once. -/
mutual
def uptoBulk {H : Type} : DataW H → Nat
  | .lit (.string bytes) => bytes.length + 1
  | .lit _ => 1
  | .nil => 1
  | .ptr d => uptoBulk d + 1
  | .slice elems spare => uptoBulkAll elems + uptoBulkAll spare + 1
  | .agg parts => uptoBulkAll parts + 1
  | .iface _ d => uptoBulk d + 1
  | .map entries => uptoBulkEntries entries + 1
  | .held _ => 1
def uptoBulkAll {H : Type} : List (DataW H) → Nat
  | [] => 0
  | d :: r => uptoBulk d + uptoBulkAll r
def uptoBulkEntries {H : Type} : List (Lit × DataW H) → Nat
  | [] => 0
  | x :: r => uptoBulkEntry x + uptoBulkEntries r
def uptoBulkEntry {H : Type} : Lit × DataW H → Nat
  | (.string bytes, d) => bytes.length + uptoBulk d + 1
  | (_, d) => uptoBulk d + 1
 end
def uptoSmall : (H : Type) → List (DataW H) → Bool := fun _ ds => decide (uptoBulkAll ds ≤ 1048576)
def OpenSpec.upto (s : _root_.Go.ChangeSpec) : _root_.Go.OpenSpec := { _root_.Go.OpenSpec.ofChange s with cond := some uptoSmall }

/-- 'porticolaw10.TravelRuns', WHERE WHAT IT READS IS OF BULK AT MOST 1048576: true; the input reads as it did. -/
def travelRunsUptoRow : OpenClaim := { program := "ythigandmemifoaagreatdoor", sum := "bf19d65f6b9f1fe8019789a7ff2c343046abf122ce694df016e22577ebbb2872", func := "portico/porticolaw10.TravelRuns", spec := "travelRuns", inPlace := ["internal/abi.NoEscape", "internal/bytealg.MakeNoZero", "internal/bytealg.CountString", "internal/bytealg.IndexByteString", "internal/bytealg.IndexString"], unfollowed := true, recurses := true, named := ["unicode/utf8.first", "unicode/utf8.acceptRanges", "internal/bytealg.MaxLen"], apart := false, laid := [("unicode/utf8.acceptRanges", laid_unicode_utf8_acceptRanges), ("unicode/utf8.first", laid_unicode_utf8_first)], narrowed := true }
def TravelRunsUptoSaid : Prop := travelRunsUptoRow.holds Tryz.pinned (OpenSpec.upto travelRunsSpec)

/-- 'porticolaw10.TravelGoes', WHERE WHAT IT READS IS OF BULK AT MOST 1048576: true; the input reads as it did. -/
def travelGoesUptoRow : OpenClaim := { program := "ythigandmemifoaagreatdoor", sum := "bf19d65f6b9f1fe8019789a7ff2c343046abf122ce694df016e22577ebbb2872", func := "portico/porticolaw10.TravelGoes", spec := "travelGoes", inPlace := ["internal/abi.NoEscape", "internal/bytealg.MakeNoZero", "internal/bytealg.CountString", "internal/bytealg.IndexByteString", "internal/bytealg.IndexString"], unfollowed := true, recurses := true, named := ["unicode/utf8.first", "unicode/utf8.acceptRanges", "internal/bytealg.MaxLen"], apart := false, laid := [("unicode/utf8.acceptRanges", laid_unicode_utf8_acceptRanges), ("unicode/utf8.first", laid_unicode_utf8_first)], narrowed := true }
def TravelGoesUptoSaid : Prop := travelGoesUptoRow.holds Tryz.pinned (OpenSpec.upto travelGoesSpec)

/-- 'porticolaw10.TravelArrives', WHERE WHAT IT READS IS OF BULK AT MOST 1048576: true; the input reads as it did. -/
def travelArrivesUptoRow : OpenClaim := { program := "ythigandmemifoaagreatdoor", sum := "bf19d65f6b9f1fe8019789a7ff2c343046abf122ce694df016e22577ebbb2872", func := "portico/porticolaw10.TravelArrives", spec := "travelArrives", inPlace := ["internal/abi.NoEscape", "internal/bytealg.MakeNoZero", "internal/bytealg.CountString", "internal/bytealg.IndexByteString", "internal/bytealg.IndexString"], unfollowed := true, recurses := true, named := ["unicode/utf8.first", "unicode/utf8.acceptRanges", "internal/bytealg.MaxLen"], apart := false, laid := [("unicode/utf8.acceptRanges", laid_unicode_utf8_acceptRanges), ("unicode/utf8.first", laid_unicode_utf8_first)], narrowed := true }
def TravelArrivesUptoSaid : Prop := travelArrivesUptoRow.holds Tryz.pinned (OpenSpec.upto travelArrivesSpec)

/-- 'porticolaw10.TravelFlags', WHERE WHAT IT READS IS OF BULK AT MOST 1048576: true; the input reads as it did. -/
def travelFlagsUptoRow : OpenClaim := { program := "ythigandmemifoaagreatdoor", sum := "bf19d65f6b9f1fe8019789a7ff2c343046abf122ce694df016e22577ebbb2872", func := "portico/porticolaw10.TravelFlags", spec := "travelFlags", inPlace := ["internal/abi.NoEscape", "internal/bytealg.MakeNoZero", "internal/bytealg.CountString", "internal/bytealg.IndexByteString", "internal/bytealg.IndexString"], unfollowed := true, recurses := true, named := ["unicode/utf8.first", "unicode/utf8.acceptRanges", "internal/bytealg.MaxLen"], apart := false, laid := [("unicode/utf8.acceptRanges", laid_unicode_utf8_acceptRanges), ("unicode/utf8.first", laid_unicode_utf8_first)], narrowed := true }
def TravelFlagsUptoSaid : Prop := travelFlagsUptoRow.holds Tryz.pinned (OpenSpec.upto travelFlagsSpec)

end Rows
end Go.Proofs.YthigandmemifoaaGreatDoor
