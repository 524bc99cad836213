/-
  Numbers of which a URL is made, and a slice of numbers, that came in, opened.
-/
import Derived.Test.YtdlljccabkmfiaaDoorArgs
namespace Go.Proofs.YtdlljccabkmfiaaDoor
open Go.ChangeShapes Go.WideShapes Go.ChangeAt Go.RowKit Go.Deep

theorem cells40 : Tryd.prog.cellsOf 40 = 3 := by kernel_rfl
theorem reads40 : Tryd.prog.readableRec 40 = true := by kernel_rfl
theorem reads36 : Tryd.prog.readableRec 36 = true := by kernel_rfl

variable {H : Type} {enc : TypeId × Value → H} {W : World} {held : Bool}

set_option maxRecDepth 100000 in
theorem open_keep {r : Reach} {b0 : Nat} {v : Value} {d : DataW H} {ps : List MemPlace} (hv : Value.okWide Tryd.prog W r b0 40 v) (h : DataW.Trod enc Tryd.prog W 0 (fun _ => true) held 40 v d ps) :
    ∃ A1 n1 c1 A2 n2 c2 A3 n3 c3 f1 f2 f3, v = .agg #[.slice A1 n1 c1, .slice A2 n2 c2, .slice A3 n3 c3] ∧ Ia W A1 n1 f1 ∧ Ia W A2 n2 f2 ∧ Ia W A3 n3 f3 := by
  obtain ⟨v0, v1, v2, y0, y1, y2, n, rfl, _, _, h0, h1, h2⟩ := Joins.open_agg3 Tryd.underlying40 (by kernel_rfl) cells40 hv h
  obtain ⟨A1, n1, c1, f1, rfl, k1⟩ := ia_of h0
  obtain ⟨A2, n2, c2, f2, rfl, k2⟩ := ia_of h1
  obtain ⟨A3, n3, c3, f3, rfl, k3⟩ := ia_of h2
  exact ⟨A1, n1, c1, A2, n2, c2, A3, n3, c3, f1, f2, f3, rfl, k1, k2, k3⟩
set_option maxRecDepth 100000 in
theorem open_nums {r : Reach} {b0 : Nat} {v : Value} {d : DataW H} {ps : List MemPlace} (hv : Value.okWide Tryd.prog W r b0 36 v) (h : DataW.Trod enc Tryd.prog W 0 (fun _ => true) held 36 v d ps) : ∃ A n c f, v = .slice A n c ∧ Ia W A n f := by
  obtain ⟨a0, len, cap, rfl⟩ := okWide_slice Tryd.underlying36 hv
  obtain ⟨fuel, hf⟩ := h
  exact ia_of hf
end Go.Proofs.YtdlljccabkmfiaaDoor
