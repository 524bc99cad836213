/-
  What comes in, opened: numbers of which patterns and URLs are made; segments.
-/
import Derived.Test.YtgiepgbjkkhniaaKeep
import Derived.Test.YtgiepgbjkkhniaaFst
import Derived.Test.YtgiepgbjkkhniaaChecked
import Derived.Lib.SmallJoins
import Derived.Deep.Strs
import Derived.Deep.SlicePairs
import Derived.ChangeSlices
import Derived.OpenShut
namespace Go.Proofs.Ytgiepgbjkkhniaa
open Go.ChangeShapes Go.WideShapes Go.ChangeAt Go.RowKit Go.Deep

theorem cells3 : Try.prog.cellsOf 3 = 1 := by kernel_rfl
theorem cells9 : Try.prog.cellsOf 9 = 1 := by kernel_rfl
theorem cells69 : Try.prog.cellsOf 69 = 3 := by kernel_rfl
theorem cells23 : Try.prog.cellsOf 23 = 2 := by kernel_rfl
theorem laid : laidOutB Try.prog = true := by kernel_rfl
theorem reads69 : Try.prog.readableRec 69 = true := by kernel_rfl
theorem reads26 : Try.prog.readableRec 26 = true := by kernel_rfl

variable {H : Type} {enc : TypeId × Value → H} {W : World} {sp : Nat → Bool} {held : Bool}

theorem ia_of {v : Value} {n : Nat} {y : DataW H × List MemPlace} (h : DataW.trod enc Try.prog W 0 (fun _ => true) held n 35 [v] = some y) : ∃ A l c f, v = .slice A l c ∧ Ia W A l f := by
  rcases open_ints Try.underlying35 Try.underlying3 cells3 h with ⟨hcs, _⟩ | ⟨a, len, cap, zs, hcs, _, hl, hm, hz, _, hcell, _⟩
  · simp at hcs
    exact ⟨none, 0, 0, fun _ => 0, hcs, by omega, fun i hi => by omega⟩
  · simp at hcs
    simp at hz
    refine ⟨some a, len, cap, fun i => zs.getD i 0, hcs, by unfold maxLen at hm; omega, fun i hi => ?_⟩
    obtain ⟨b, off, spot⟩ := a
    have hspot : spot = none := by simpa [Addr.add] using World.cell?_spot (hcell 0 (by omega))
    subst hspot
    refine ⟨b, off, rfl, ?_⟩
    have := hcell i (by omega)
    rw [Addr.add_lit] at this
    exact this
set_option maxRecDepth 100000 in
theorem open_pat {r : Reach} {b0 : Nat} {v : Value} {d : DataW H} {ps : List MemPlace} (hv : Value.okWide Try.prog W r b0 69 v) (h : DataW.Trod enc Try.prog W 0 (fun _ => true) held 69 v d ps) :
    ∃ A1 n1 c1 A2 n2 c2 la f1 f2, v = .agg #[.slice A1 n1 c1, .slice A2 n2 c2, .int .i64 la] ∧ Ia W A1 n1 f1 ∧ Ia W A2 n2 f2 := by
  obtain ⟨v0, v1, v2, y0, y1, y2, n, rfl, _, _, h0, h1, h2⟩ := Joins.open_agg3 Try.underlying69 (by kernel_rfl) cells69 hv h
  obtain ⟨A1, n1, c1, f1, rfl, k1⟩ := ia_of h0
  obtain ⟨A2, n2, c2, f2, rfl, k2⟩ := ia_of h1
  obtain ⟨z, e, _, _⟩ := DataW.trod_int Try.underlying3 h2
  simp at e
  subst e
  exact ⟨A1, n1, c1, A2, n2, c2, z, f1, f2, rfl, k1, k2⟩
theorem gs_of {v : Value} {n : Nat} {y : DataW H × List MemPlace} (h : DataW.trod enc Try.prog W 0 sp held n 26 [v] = some y) : ∃ l, Gs W v l ∧ l.length ≤ 9223372036854775807 := by
  rcases open_slice_pairs Try.underlying26 Try.underlying23 cells23 rfl rfl (by kernel_rfl) (by kernel_rfl) h with ⟨hcs, _⟩ | ⟨a, len, cap, m, k, V0, V1, D0, D1, P0, P1, hcs, hx1, hl, hx2, hm, hx3, hcell⟩
  · simp at hcs
    subst hcs
    exact ⟨[], gs_nil _, by simp⟩
  · simp at hcs
    subst hcs
    have hlm : len ≤ m := by rw [hm]; split <;> omega
    have each : ∀ i, i < m → ∃ x : Sg, W.cell? (a.add (i * 2)) = some (.int .i64 x.1) ∧ W.cell? (a.add (i * 2 + 1)) = some (.string x.2) := by
      intro i hi
      obtain ⟨h1, h2, h3, h4⟩ := hcell i hi
      obtain ⟨s, e1, _, _⟩ := DataW.trod_int Try.underlying3 h3
      obtain ⟨t, e2, _, _⟩ := DataW.trod_string Try.underlying9 h4
      simp at e1 e2
      rw [e1] at h1
      rw [e2] at h2
      exact ⟨(s, t), h1, h2⟩
    obtain ⟨X, hX⟩ := choose_lt each
    have hlen : ((List.range len).map X).length = len := by simp
    refine ⟨(List.range len).map X, ⟨some a, cap, by rw [hlen], by rw [hlen]; exact hl, (fun h => by cases h), fun i hi => ?_⟩, ?_⟩
    · rw [hlen] at hi
      have hg : ((List.range len).map X).getD i default = X i := by simp [List.getD, hi]
      obtain ⟨b, off, spot⟩ := a
      have h0 := hX i (by omega)
      have hspot : spot = none := by simpa [Addr.add] using World.cell?_spot (hX 0 (by omega)).1
      subst hspot
      rw [hg]
      refine ⟨b, off, rfl, ?_, ?_⟩
      · have := h0.1
        rw [Addr.add_lit] at this
        exact this
      · have := h0.2
        rw [Addr.add_lit, ← Nat.add_assoc] at this
        exact this
    · rw [hlen]
      unfold maxLen at hx2
      omega
set_option maxRecDepth 100000 in
theorem open_segs {r : Reach} {b0 : Nat} {v : Value} {d : DataW H} {ps : List MemPlace} (hv : Value.okWide Try.prog W r b0 26 v) (h : DataW.Trod enc Try.prog W 0 sp held 26 v d ps) : ∃ l, Gs W v l ∧ l.length ≤ 9223372036854775807 := by
  obtain ⟨a0, len, cap, rfl⟩ := okWide_slice Try.underlying26 hv
  obtain ⟨fuel, hf⟩ := h
  exact gs_of hf
end Go.Proofs.Ytgiepgbjkkhniaa
