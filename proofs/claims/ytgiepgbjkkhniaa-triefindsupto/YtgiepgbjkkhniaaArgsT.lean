/-
  Numbers of which a URL is made, that came in, opened.
-/
import Derived.Test.YtgiepgbjkkhniaaArgsS
namespace Go.Proofs.Ytgiepgbjkkhniaa
set_option maxRecDepth 100000
open Go.ChangeShapes Go.WideShapes Go.ChangeAt Go.RowKit Go.Deep

theorem cells42 : Try.prog.cellsOf 42 = 3 := by kernel_rfl
theorem reads42 : Try.prog.readableRec 42 = true := by kernel_rfl

variable {H : Type} {enc : TypeId × Value → H} {W : World} {held : Bool}

theorem open_keep {r : Reach} {b0 : Nat} {v : Value} {d : DataW H} {ps : List MemPlace} (hv : Value.okWide Try.prog W r b0 42 v) (h : DataW.Trod enc Try.prog W 0 (fun _ => true) held 42 v d ps) :
    ∃ A1 n1 c1 A2 n2 c2 A3 n3 c3 f1 f2 f3, v = .agg #[.slice A1 n1 c1, .slice A2 n2 c2, .slice A3 n3 c3] ∧ Ia W A1 n1 f1 ∧ Ia W A2 n2 f2 ∧ Ia W A3 n3 f3 := by
  obtain ⟨v0, v1, v2, y0, y1, y2, n, rfl, _, _, h0, h1, h2⟩ := Joins.open_agg3 Try.underlying42 (by kernel_rfl) cells42 hv h
  obtain ⟨A1, n1, c1, f1, rfl, k1⟩ := ia_of h0
  obtain ⟨A2, n2, c2, f2, rfl, k2⟩ := ia_of h1
  obtain ⟨A3, n3, c3, f3, rfl, k3⟩ := ia_of h2
  exact ⟨A1, n1, c1, A2, n2, c2, A3, n3, c3, f1, f2, f3, rfl, k1, k2, k3⟩
end Go.Proofs.Ytgiepgbjkkhniaa
