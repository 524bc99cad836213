/-
  What comes in, opened: the numbers of a table, of a URL.
-/
import Derived.Test.YtnnmbpghkflepaaGreatDoorKeep
import Derived.Test.YtnnmbpghkflepaaGreatDoorFst
import Derived.Test.YtnnmbpghkflepaaGreatDoorChecked
import Derived.Lib.SmallJoins
import Derived.Deep.Strs
import Derived.Deep.SlicePairs
import Derived.ChangeSlices
import Derived.OpenShut
namespace Go.Proofs.YtnnmbpghkflepaaGreatDoor
open Go.ChangeShapes Go.WideShapes Go.ChangeAt Go.RowKit Go.Deep

theorem cells3 : Tryz.prog.cellsOf 3 = 1 := by kernel_rfl
theorem cells9 : Tryz.prog.cellsOf 9 = 1 := by kernel_rfl
theorem cells25 : Tryz.prog.cellsOf 25 = 7 := by kernel_rfl
theorem cells23 : Tryz.prog.cellsOf 23 = 1 := by kernel_rfl
theorem laid : laidOutB Tryz.prog = true := by kernel_rfl
theorem reads25 : Tryz.prog.readableRec 25 = true := by kernel_rfl
theorem array7 {α : Type} {cs : Array α} (h : cs.size = 7) : ∃ c0 c1 c2 c3 c4 c5 c6, cs = #[c0, c1, c2, c3, c4, c5, c6] := by
  obtain ⟨l⟩ := cs
  match l, h with
  | [c0, c1, c2, c3, c4, c5, c6], _ => exact ⟨c0, c1, c2, c3, c4, c5, c6, rfl⟩

variable {H : Type} {enc : TypeId × Value → H} {W : World} {held : Bool}

theorem ia_of {v : Value} {n : Nat} {y : DataW H × List MemPlace} (h : DataW.trod enc Tryz.prog W 0 (fun _ => true) held n 23 [v] = some y) : ∃ A l c f, v = .slice A l c ∧ Ia W A l f := by
  rcases open_ints Tryz.underlying23 Tryz.underlying3 cells3 h with ⟨hcs, _⟩ | ⟨a, len, cap, zs, hcs, _, hl, hm, hz, _, hcell, _⟩
  · simp at hcs
    exact ⟨none, 0, 0, fun _ => 0, hcs, by omega, fun i hi => by omega⟩
  · simp at hcs
    simp at hz
    refine ⟨some a, len, cap, fun i => zs.getD i 0, hcs, by unfold maxLen at hm; omega, fun i hi => ?_⟩
    obtain ⟨b, off, spot⟩ := a
    have hspot : spot = none := by simpa [Addr.add] using World.cell?_spot (hcell 0 (by omega))
    subst hspot
    refine ⟨b, off, rfl, ?_⟩
    have := hcell i (by omega)
    rw [Addr.add_lit] at this
    exact this

set_option maxRecDepth 100000 in
theorem open_table {r : Reach} {b0 : Nat} {v : Value} {d : DataW H} {ps : List MemPlace} (hv : Value.okWide Tryz.prog W r b0 25 v) (h : DataW.Trod enc Tryz.prog W 0 (fun _ => true) held 25 v d ps) :
    ∃ A0 n0 c0 A1 n1 c1 A2 n2 c2 A3 n3 c3 A4 n4 c4 A5 n5 c5 A6 n6 c6 f0 f1 f2 f3 f4 f5 f6, v = .agg #[.slice A0 n0 c0, .slice A1 n1 c1, .slice A2 n2 c2, .slice A3 n3 c3, .slice A4 n4 c4, .slice A5 n5 c5, .slice A6 n6 c6] ∧ Ia W A0 n0 f0 ∧ Ia W A1 n1 f1 ∧ Ia W A2 n2 f2 ∧ Ia W A3 n3 f3 ∧ Ia W A4 n4 f4 ∧ Ia W A5 n5 f5 ∧ Ia W A6 n6 f6 := by
  obtain ⟨cs, rfl, hsz⟩ := okWide_struct Tryz.underlying25 hv
  obtain ⟨v0, v1, v2, v3, v4, v5, v6, rfl⟩ := array7 (hsz.trans cells25)
  obtain ⟨fuel, hf⟩ := h
  obtain ⟨xs, n, _, hx, hl, hlen, hf⟩ := DataW.trod_struct Tryz.underlying25 hf
  clear hx hl
  match xs, hlen with
  | [y0, y1, y2, y3, y4, y5, y6], _ =>
    obtain ⟨A0, n0, c0, f0, rfl, k0⟩ := ia_of (W := W) (enc := enc) (held := held) (v := v0) (y := y0) (n := n) (by simpa [Value.cells, cells23] using hf 0 _ rfl)
    obtain ⟨A1, n1, c1, f1, rfl, k1⟩ := ia_of (W := W) (enc := enc) (held := held) (v := v1) (y := y1) (n := n) (by simpa [Value.cells, cells23] using hf 1 _ rfl)
    obtain ⟨A2, n2, c2, f2, rfl, k2⟩ := ia_of (W := W) (enc := enc) (held := held) (v := v2) (y := y2) (n := n) (by simpa [Value.cells, cells23] using hf 2 _ rfl)
    obtain ⟨A3, n3, c3, f3, rfl, k3⟩ := ia_of (W := W) (enc := enc) (held := held) (v := v3) (y := y3) (n := n) (by simpa [Value.cells, cells23] using hf 3 _ rfl)
    obtain ⟨A4, n4, c4, f4, rfl, k4⟩ := ia_of (W := W) (enc := enc) (held := held) (v := v4) (y := y4) (n := n) (by simpa [Value.cells, cells23] using hf 4 _ rfl)
    obtain ⟨A5, n5, c5, f5, rfl, k5⟩ := ia_of (W := W) (enc := enc) (held := held) (v := v5) (y := y5) (n := n) (by simpa [Value.cells, cells23] using hf 5 _ rfl)
    obtain ⟨A6, n6, c6, f6, rfl, k6⟩ := ia_of (W := W) (enc := enc) (held := held) (v := v6) (y := y6) (n := n) (by simpa [Value.cells, cells23] using hf 6 _ rfl)
    exact ⟨A0, n0, c0, A1, n1, c1, A2, n2, c2, A3, n3, c3, A4, n4, c4, A5, n5, c5, A6, n6, c6, f0, f1, f2, f3, f4, f5, f6, rfl, k0, k1, k2, k3, k4, k5, k6⟩
end Go.Proofs.YtnnmbpghkflepaaGreatDoor
