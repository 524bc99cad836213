/-
  What comes in, opened: numbers of which a tree is made.
-/
import Derived.Test.YtolklphenllhpaaKea
import Derived.Test.YtolklphenllhpaaRows
import Derived.Lib.SmallJoins
import Derived.Deep.Strs
import Derived.Deep.Grids
import Derived.Deep.Slices
import Derived.Deep.SlicePairs
import Derived.ChangeSlices
import Derived.ChangeMaps5
import Derived.Carry
import Derived.OpenShut
namespace Go.Proofs.Ytolklphenllhpaa
open Go.ChangeShapes Go.WideShapes Go.ChangeAt Go.RowKit Go.Deep
set_option maxRecDepth 100000

theorem laid : laidOutB Try.prog = true := by kernel_rfl
theorem cells3 : Try.prog.cellsOf 3 = 1 := by kernel_rfl
theorem cells32 : Try.prog.cellsOf 32 = 1 := by kernel_rfl
theorem cells34 : Try.prog.cellsOf 34 = 4 := by kernel_rfl
theorem reads34 : Try.prog.readableRec 34 = true := by kernel_rfl
theorem array4 {α : Type} {cs : Array α} (h : cs.size = 4) : ∃ c0 c1 c2 c3, cs = #[c0, c1, c2, c3] := by
  obtain ⟨l⟩ := cs
  match l, h with
  | [c0, c1, c2, c3], _ => exact ⟨c0, c1, c2, c3, rfl⟩

variable {H : Type} {enc : TypeId × Value → H} {W : World} {held : Bool}

theorem ia_of {v : Value} {n : Nat} {y : DataW H × List MemPlace} (h : DataW.trod enc Try.prog W 0 (fun _ => true) held n 32 [v] = some y) : ∃ A l c f, v = .slice A l c ∧ Ia W A l f := by
  rcases open_ints Try.underlying32 Try.underlying3 cells3 h with ⟨hcs, _⟩ | ⟨a, len, cap, zs, hcs, _, hl, hm, hz, _, hcell, _⟩
  · simp at hcs
    exact ⟨none, 0, 0, fun _ => 0, hcs, by omega, fun i hi => by omega⟩
  · simp at hcs
    simp at hz
    refine ⟨some a, len, cap, fun i => zs.getD i 0, hcs, by unfold maxLen at hm; omega, fun i hi => ?_⟩
    obtain ⟨b, off, spot⟩ := a
    have hspot : spot = none := by simpa [Addr.add] using World.cell?_spot (hcell 0 (by omega))
    subst hspot
    refine ⟨b, off, rfl, ?_⟩
    have := hcell i (by omega)
    rw [Addr.add_lit] at this
    exact this
/-- the numbers of a Wood that comes in -/
def Wo (W : World) (v : Value) : Prop :=
  ∃ A0 n0 c0 A1 n1 c1 A2 n2 c2 A3 n3 c3 f0 f1 f2 f3, v = .agg #[.slice A0 n0 c0, .slice A1 n1 c1, .slice A2 n2 c2, .slice A3 n3 c3] ∧ Ia W A0 n0 f0 ∧ Ia W A1 n1 f1 ∧ Ia W A2 n2 f2 ∧ Ia W A3 n3 f3
theorem open_wood {r : Reach} {b0 : Nat} {v : Value} {d : DataW H} {ps : List MemPlace} (hv : Value.okWide Try.prog W r b0 34 v) (h : DataW.Trod enc Try.prog W 0 (fun _ => true) held 34 v d ps) : Wo W v := by
  obtain ⟨cs, rfl, hsz⟩ := okWide_struct Try.underlying34 hv
  obtain ⟨v0, v1, v2, v3, rfl⟩ := array4 (hsz.trans cells34)
  obtain ⟨fuel, hf⟩ := h
  obtain ⟨xs, n, _, hx, hl, hlen, hf⟩ := DataW.trod_struct Try.underlying34 hf
  clear hx hl
  match xs, hlen with
  | [y0, y1, y2, y3], _ =>
    obtain ⟨A0, n0, c0, f0, rfl, k0⟩ := ia_of (W := W) (enc := enc) (held := held) (v := v0) (y := y0) (n := n) (by simpa [Value.cells, cells32] using hf 0 _ rfl)
    obtain ⟨A1, n1, c1, f1, rfl, k1⟩ := ia_of (W := W) (enc := enc) (held := held) (v := v1) (y := y1) (n := n) (by simpa [Value.cells, cells32] using hf 1 _ rfl)
    obtain ⟨A2, n2, c2, f2, rfl, k2⟩ := ia_of (W := W) (enc := enc) (held := held) (v := v2) (y := y2) (n := n) (by simpa [Value.cells, cells32] using hf 2 _ rfl)
    obtain ⟨A3, n3, c3, f3, rfl, k3⟩ := ia_of (W := W) (enc := enc) (held := held) (v := v3) (y := y3) (n := n) (by simpa [Value.cells, cells32] using hf 3 _ rfl)
    exact ⟨A0, n0, c0, A1, n1, c1, A2, n2, c2, A3, n3, c3, f0, f1, f2, f3, rfl, k0, k1, k2, k3⟩
end Go.Proofs.Ytolklphenllhpaa
