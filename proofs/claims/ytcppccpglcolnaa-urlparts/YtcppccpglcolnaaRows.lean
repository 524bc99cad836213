/-
  No cell of these rows narrows 'for every input' (looked for: loops, veiled, ifaces, maps, wideKeys, modest, calm, conditions, laid).
  DERIVED. THE GIVEN ROWS OF THIS SEAT. 6 by the template 'for every input the law returns true; each argument reads behind the call as it read before'; 0 by the template 'total and deterministic' (their statements: YtcppccpglcolnaaTotals.lean).
  GIVEN WITH THE SEED: the statements are not yours to turn. If you find one false, say at which input.
  Laid BY PROGRAM, IN A SANDBOX (cutbox-rows.mjs): the forced cells as the released guide's own fill.sh prints them over the translation 496d38953d183757… (all of the seat's roots in one cut). By AI agents, Wed Nov 11 2026. No macro, syntax, notation, axiom, sorry.
-/
import Derived.Test.YtcppccpglcolnaaChecked
import GoSem.Claim
import GoSem.ClaimJoined
import GoSem.ClaimMapViews
import Derived.JoinedTies
import Derived.KernelRfl
namespace Go.Proofs.Ytcppccpglcolnaa
/- THE CELL 'sum', in the pinned program and in every row, IS THE sha256 OF THE DUMP (.gsa) THAT YtcppccpglcolnaaProg.lean LOADS. Nothing in Lean hashes anything: it is a label: what it is worth is what the hold of that sum in a sandbox is worth. -/
noncomputable def Try.pinned : Pinned := { name := "ytcppccpglcolnaa", sum := "496d38953d183757eb7eda1ae5a68e5f46f78576f940095824b95cbd4e060036", checked := Try.checked }
namespace Rows
def none {H : Type} : Left H := { results := [], args := [] }

/-- 'porticolaw4.URLRuns': WHATEVER THE INPUT: true; the input reads as it did. -/
def uRLRunsSpec : ChangeSpec := { name := "uRLRuns", fn := fun _ => fun
  | [] => { results := [.lit (.bool true)], args := [] }
  | _ => none }
def uRLRunsRow : OpenClaim := { program := "ytcppccpglcolnaa", sum := "496d38953d183757eb7eda1ae5a68e5f46f78576f940095824b95cbd4e060036", func := "portico/porticolaw4.URLRuns", spec := "uRLRuns", apart := false }
def URLRunsSaid : Prop := uRLRunsRow.holds Try.pinned (OpenSpec.ofChange uRLRunsSpec)

/-- ITS FALSE NEIGHBOUR: 'it returns false'. Refute it at one input. -/
def uRLRunsWrong : ChangeSpec := { name := "uRLRuns", fn := fun _ => fun
  | [] => { results := [.lit (.bool false)], args := [] }
  | _ => none }
def URLRunsWrongFalsely : Prop := uRLRunsRow.holds Try.pinned (OpenSpec.ofChange uRLRunsWrong)

/-- 'porticolaw4.URLTells': WHATEVER THE INPUT: true; the input reads as it did. -/
def uRLTellsSpec : ChangeSpec := { name := "uRLTells", fn := fun _ => fun
  | [d1, d2, d3, d4] => { results := [.lit (.bool true)], args := [d1, d2, d3, d4] }
  | _ => none }
def uRLTellsRow : OpenClaim := { program := "ytcppccpglcolnaa", sum := "496d38953d183757eb7eda1ae5a68e5f46f78576f940095824b95cbd4e060036", func := "portico/porticolaw4.URLTells", spec := "uRLTells", apart := false }
def URLTellsSaid : Prop := uRLTellsRow.holds Try.pinned (OpenSpec.ofChange uRLTellsSpec)

/-- ITS FALSE NEIGHBOUR: 'it returns false'. Refute it at one input. -/
def uRLTellsWrong : ChangeSpec := { name := "uRLTells", fn := fun _ => fun
  | [d1, d2, d3, d4] => { results := [.lit (.bool false)], args := [d1, d2, d3, d4] }
  | _ => none }
def URLTellsWrongFalsely : Prop := uRLTellsRow.holds Try.pinned (OpenSpec.ofChange uRLTellsWrong)

/-- 'porticolaw4.URLBack': WHATEVER THE INPUT: true; the input reads as it did. -/
def uRLBackSpec : ChangeSpec := { name := "uRLBack", fn := fun _ => fun
  | [d1, d2, d3] => { results := [.lit (.bool true)], args := [d1, d2, d3] }
  | _ => none }
def uRLBackRow : OpenClaim := { program := "ytcppccpglcolnaa", sum := "496d38953d183757eb7eda1ae5a68e5f46f78576f940095824b95cbd4e060036", func := "portico/porticolaw4.URLBack", spec := "uRLBack", apart := false }
def URLBackSaid : Prop := uRLBackRow.holds Try.pinned (OpenSpec.ofChange uRLBackSpec)

/-- ITS FALSE NEIGHBOUR: 'it returns false'. Refute it at one input. -/
def uRLBackWrong : ChangeSpec := { name := "uRLBack", fn := fun _ => fun
  | [d1, d2, d3] => { results := [.lit (.bool false)], args := [d1, d2, d3] }
  | _ => none }
def URLBackWrongFalsely : Prop := uRLBackRow.holds Try.pinned (OpenSpec.ofChange uRLBackWrong)

/-- 'porticolaw4.URLTurned': WHATEVER THE INPUT: true; the input reads as it did. -/
def uRLTurnedSpec : ChangeSpec := { name := "uRLTurned", fn := fun _ => fun
  | [d1, d2, d3, d4] => { results := [.lit (.bool true)], args := [d1, d2, d3, d4] }
  | _ => none }
def uRLTurnedRow : OpenClaim := { program := "ytcppccpglcolnaa", sum := "496d38953d183757eb7eda1ae5a68e5f46f78576f940095824b95cbd4e060036", func := "portico/porticolaw4.URLTurned", spec := "uRLTurned", apart := false }
def URLTurnedSaid : Prop := uRLTurnedRow.holds Try.pinned (OpenSpec.ofChange uRLTurnedSpec)

/-- ITS FALSE NEIGHBOUR: 'it returns false'. Refute it at one input. -/
def uRLTurnedWrong : ChangeSpec := { name := "uRLTurned", fn := fun _ => fun
  | [d1, d2, d3, d4] => { results := [.lit (.bool false)], args := [d1, d2, d3, d4] }
  | _ => none }
def URLTurnedWrongFalsely : Prop := uRLTurnedRow.holds Try.pinned (OpenSpec.ofChange uRLTurnedWrong)

/-- 'porticolaw4.URLParts': WHATEVER THE INPUT: true; the input reads as it did. -/
def uRLPartsSpec : ChangeSpec := { name := "uRLParts", fn := fun _ => fun
  | [d1, d2, d3] => { results := [.lit (.bool true)], args := [d1, d2, d3] }
  | _ => none }
def uRLPartsRow : OpenClaim := { program := "ytcppccpglcolnaa", sum := "496d38953d183757eb7eda1ae5a68e5f46f78576f940095824b95cbd4e060036", func := "portico/porticolaw4.URLParts", spec := "uRLParts", apart := false }
def URLPartsSaid : Prop := uRLPartsRow.holds Try.pinned (OpenSpec.ofChange uRLPartsSpec)

/-- ITS FALSE NEIGHBOUR: 'it returns false'. Refute it at one input. -/
def uRLPartsWrong : ChangeSpec := { name := "uRLParts", fn := fun _ => fun
  | [d1, d2, d3] => { results := [.lit (.bool false)], args := [d1, d2, d3] }
  | _ => none }
def URLPartsWrongFalsely : Prop := uRLPartsRow.holds Try.pinned (OpenSpec.ofChange uRLPartsWrong)

/-- 'porticolaw4.URLGet': WHATEVER THE INPUT: true; the input reads as it did. -/
def uRLGetSpec : ChangeSpec := { name := "uRLGet", fn := fun _ => fun
  | [d1, d2, d3] => { results := [.lit (.bool true)], args := [d1, d2, d3] }
  | _ => none }
def uRLGetRow : OpenClaim := { program := "ytcppccpglcolnaa", sum := "496d38953d183757eb7eda1ae5a68e5f46f78576f940095824b95cbd4e060036", func := "portico/porticolaw4.URLGet", spec := "uRLGet", apart := false }
def URLGetSaid : Prop := uRLGetRow.holds Try.pinned (OpenSpec.ofChange uRLGetSpec)

/-- ITS FALSE NEIGHBOUR: 'it returns false'. Refute it at one input. -/
def uRLGetWrong : ChangeSpec := { name := "uRLGet", fn := fun _ => fun
  | [d1, d2, d3] => { results := [.lit (.bool false)], args := [d1, d2, d3] }
  | _ => none }
def URLGetWrongFalsely : Prop := uRLGetRow.holds Try.pinned (OpenSpec.ofChange uRLGetWrong)

/- THE SECOND FORM. 'bulk': how many values and letters a reading holds, each counted each time it is reached (what is shared counts as often as it is met; a slice's spare places count too). A statement '..UptoSaid' is the law's where the arguments, and the package variables that the reading takes, are together of bulk at most 1048576: NARROWER than '..Said'. Prove '..Said' where nothing that the law and all that it calls make is longer than what came in: it says more and counts as full. Else prove '..UptoSaid'. A law counts once. -/
mutual
def uptoBulk {H : Type} : DataW H → Nat
  | .lit (.string bytes) => bytes.length + 1
  | .lit _ => 1
  | .nil => 1
  | .ptr d => uptoBulk d + 1
  | .slice elems spare => uptoBulkAll elems + uptoBulkAll spare + 1
  | .agg parts => uptoBulkAll parts + 1
  | .iface _ d => uptoBulk d + 1
  | .map entries => uptoBulkEntries entries + 1
  | .held _ => 1
def uptoBulkAll {H : Type} : List (DataW H) → Nat
  | [] => 0
  | d :: r => uptoBulk d + uptoBulkAll r
def uptoBulkEntries {H : Type} : List (Lit × DataW H) → Nat
  | [] => 0
  | x :: r => uptoBulkEntry x + uptoBulkEntries r
def uptoBulkEntry {H : Type} : Lit × DataW H → Nat
  | (.string bytes, d) => bytes.length + uptoBulk d + 1
  | (_, d) => uptoBulk d + 1
 end
def uptoSmall : (H : Type) → List (DataW H) → Bool := fun _ ds => decide (uptoBulkAll ds ≤ 1048576)
def OpenSpec.upto (s : _root_.Go.ChangeSpec) : _root_.Go.OpenSpec := { _root_.Go.OpenSpec.ofChange s with cond := some uptoSmall }

/-- 'porticolaw4.URLRuns', WHERE WHAT IT READS IS OF BULK AT MOST 1048576: true; the input reads as it did. -/
def uRLRunsUptoRow : OpenClaim := { program := "ytcppccpglcolnaa", sum := "496d38953d183757eb7eda1ae5a68e5f46f78576f940095824b95cbd4e060036", func := "portico/porticolaw4.URLRuns", spec := "uRLRuns", apart := false, narrowed := true }
def URLRunsUptoSaid : Prop := uRLRunsUptoRow.holds Try.pinned (OpenSpec.upto uRLRunsSpec)

/-- 'porticolaw4.URLTells', WHERE WHAT IT READS IS OF BULK AT MOST 1048576: true; the input reads as it did. -/
def uRLTellsUptoRow : OpenClaim := { program := "ytcppccpglcolnaa", sum := "496d38953d183757eb7eda1ae5a68e5f46f78576f940095824b95cbd4e060036", func := "portico/porticolaw4.URLTells", spec := "uRLTells", apart := false, narrowed := true }
def URLTellsUptoSaid : Prop := uRLTellsUptoRow.holds Try.pinned (OpenSpec.upto uRLTellsSpec)

/-- 'porticolaw4.URLBack', WHERE WHAT IT READS IS OF BULK AT MOST 1048576: true; the input reads as it did. -/
def uRLBackUptoRow : OpenClaim := { program := "ytcppccpglcolnaa", sum := "496d38953d183757eb7eda1ae5a68e5f46f78576f940095824b95cbd4e060036", func := "portico/porticolaw4.URLBack", spec := "uRLBack", apart := false, narrowed := true }
def URLBackUptoSaid : Prop := uRLBackUptoRow.holds Try.pinned (OpenSpec.upto uRLBackSpec)

/-- 'porticolaw4.URLTurned', WHERE WHAT IT READS IS OF BULK AT MOST 1048576: true; the input reads as it did. -/
def uRLTurnedUptoRow : OpenClaim := { program := "ytcppccpglcolnaa", sum := "496d38953d183757eb7eda1ae5a68e5f46f78576f940095824b95cbd4e060036", func := "portico/porticolaw4.URLTurned", spec := "uRLTurned", apart := false, narrowed := true }
def URLTurnedUptoSaid : Prop := uRLTurnedUptoRow.holds Try.pinned (OpenSpec.upto uRLTurnedSpec)

/-- 'porticolaw4.URLParts', WHERE WHAT IT READS IS OF BULK AT MOST 1048576: true; the input reads as it did. -/
def uRLPartsUptoRow : OpenClaim := { program := "ytcppccpglcolnaa", sum := "496d38953d183757eb7eda1ae5a68e5f46f78576f940095824b95cbd4e060036", func := "portico/porticolaw4.URLParts", spec := "uRLParts", apart := false, narrowed := true }
def URLPartsUptoSaid : Prop := uRLPartsUptoRow.holds Try.pinned (OpenSpec.upto uRLPartsSpec)

/-- 'porticolaw4.URLGet', WHERE WHAT IT READS IS OF BULK AT MOST 1048576: true; the input reads as it did. -/
def uRLGetUptoRow : OpenClaim := { program := "ytcppccpglcolnaa", sum := "496d38953d183757eb7eda1ae5a68e5f46f78576f940095824b95cbd4e060036", func := "portico/porticolaw4.URLGet", spec := "uRLGet", apart := false, narrowed := true }
def URLGetUptoSaid : Prop := uRLGetUptoRow.holds Try.pinned (OpenSpec.upto uRLGetSpec)

end Rows
end Go.Proofs.Ytcppccpglcolnaa
