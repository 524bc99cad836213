/-
  Numbers of which a URL is made, that came in, opened.
-/
import Derived.Test.YtcppccpglcolnaaArgs
import Derived.Test.YtcppccpglcolnaaKeep
import Derived.ChangeSlices
namespace Go.Proofs.Ytcppccpglcolnaa
open Go.ChangeShapes Go.WideShapes Go.ChangeAt Go.RowKit Go.Deep

theorem cells3 : Try.prog.cellsOf 3 = 1 := by kernel_rfl
theorem cells44 : Try.prog.cellsOf 44 = 3 := by kernel_rfl
theorem reads44 : Try.prog.readableRec 44 = true := by kernel_rfl

variable {H : Type} {enc : TypeId × Value → H} {W : World} {held : Bool}

theorem ia_of {v : Value} {n : Nat} {y : DataW H × List MemPlace} (h : DataW.trod enc Try.prog W 0 (fun _ => true) held n 42 [v] = some y) : ∃ A l c f, v = .slice A l c ∧ Ia W A l f := by
  rcases open_ints Try.underlying42 Try.underlying3 cells3 h with ⟨hcs, _⟩ | ⟨a, len, cap, zs, hcs, _, hl, hm, hz, _, hcell, _⟩
  · simp at hcs
    exact ⟨none, 0, 0, fun _ => 0, hcs, by omega, fun i hi => by omega⟩
  · simp at hcs
    simp at hz
    refine ⟨some a, len, cap, fun i => zs.getD i 0, hcs, by unfold maxLen at hm; omega, fun i hi => ?_⟩
    obtain ⟨b, off, spot⟩ := a
    have hspot : spot = none := by simpa [Addr.add] using World.cell?_spot (hcell 0 (by omega))
    subst hspot
    refine ⟨b, off, rfl, ?_⟩
    have := hcell i (by omega)
    rw [Addr.add_lit] at this
    exact this
theorem open_keep {r : Reach} {b0 : Nat} {v : Value} {d : DataW H} {ps : List MemPlace} (hv : Value.okWide Try.prog W r b0 44 v) (h : DataW.Trod enc Try.prog W 0 (fun _ => true) held 44 v d ps) :
    ∃ A1 n1 c1 A2 n2 c2 A3 n3 c3 f1 f2 f3, v = .agg #[.slice A1 n1 c1, .slice A2 n2 c2, .slice A3 n3 c3] ∧ Ia W A1 n1 f1 ∧ Ia W A2 n2 f2 ∧ Ia W A3 n3 f3 := by
  obtain ⟨v0, v1, v2, y0, y1, y2, n, rfl, _, _, h0, h1, h2⟩ := Joins.open_agg3 Try.underlying44 (by kernel_rfl) cells44 hv h
  obtain ⟨A1, n1, c1, f1, rfl, k1⟩ := ia_of h0
  obtain ⟨A2, n2, c2, f2, rfl, k2⟩ := ia_of h1
  obtain ⟨A3, n3, c3, f3, rfl, k3⟩ := ia_of h2
  exact ⟨A1, n1, c1, A2, n2, c2, A3, n3, c3, f1, f2, f3, rfl, k1, k2, k3⟩
end Go.Proofs.Ytcppccpglcolnaa
