/-
  What comes in, opened: slices of patterns, of numbers and raw ones.
-/
import Derived.Test.YtgiepgbjkkhniaaArgs
import Derived.Test.YtgiepgbjkkhniaaSome
import Derived.Deep.Slices
namespace Go.Proofs.Ytgiepgbjkkhniaa
set_option maxRecDepth 100000
open Go.ChangeShapes Go.WideShapes Go.ChangeAt Go.RowKit Go.Deep

variable {H : Type} {enc : TypeId × Value → H} {W : World} {sp : Nat → Bool} {held : Bool}

/-! slices of patterns -/
theorem cells26 : Try.prog.cellsOf 26 = 1 := by kernel_rfl
theorem reads39 : Try.prog.readableRec 39 = true := by kernel_rfl
theorem reads40 : Try.prog.readableRec 40 = true := by kernel_rfl
theorem gss_of {v : Value} {n : Nat} {y : DataW H × List MemPlace} (h : DataW.trod enc Try.prog W 0 sp held n 40 [v] = some y) : ∃ ls, Gss W v ls ∧ ls.length ≤ 9223372036854775807 ∧ ∀ l ∈ ls, l.length ≤ 9223372036854775807 := by
  rcases open_slice1 Try.underlying40 cells26 h with ⟨hcs, _⟩ | ⟨a, len, cap, m, k, V, D, Pl, hcs, _, hl, hm, hmm, _, hx⟩
  · simp at hcs
    subst hcs
    exact ⟨[], gss_nil _, by simp, by simp⟩
  · simp at hcs
    subst hcs
    have hlm : len ≤ m := by rw [hmm]; split <;> omega
    have each : ∀ i, i < m → ∃ l : List Sg, W.cell? (a.add i) = some (V i) ∧ Gs W (V i) l ∧ l.length ≤ 9223372036854775807 := by
      intro i hi
      obtain ⟨h1, h2⟩ := hx i hi
      obtain ⟨l, h3, h4⟩ := gs_of h2
      exact ⟨l, h1, h3, h4⟩
    obtain ⟨X, hX⟩ := choose_lt each
    have hlen : ((List.range len).map X).length = len := by simp
    refine ⟨(List.range len).map X, ⟨some a, cap, by rw [hlen], by rw [hlen]; exact hl, (fun h => by cases h), fun i hi => ?_⟩, ?_, ?_⟩
    · rw [hlen] at hi
      have hg : ((List.range len).map X).getD i default = X i := by simp [List.getD, hi]
      obtain ⟨b, off, spot⟩ := a
      have h0 := hX i (by omega)
      have hspot : spot = none := by simpa [Addr.add] using World.cell?_spot (hX 0 (by omega)).1
      subst hspot
      rw [hg]
      refine ⟨b, off, V i, rfl, ?_, h0.2.1⟩
      have := h0.1
      rw [Addr.add_lit] at this
      exact this
    · rw [hlen]
      unfold maxLen at hm
      omega
    · intro l hl'
      rw [List.mem_map] at hl'
      obtain ⟨i, hi, rfl⟩ := hl'
      exact (hX i (by have : i < len := by simpa using hi
                      omega)).2.2
set_option maxRecDepth 100000 in
theorem open_raw {r : Reach} {b0 : Nat} {v : Value} {d : DataW H} {ps : List MemPlace} (hv : Value.okWide Try.prog W r b0 40 v) (h : DataW.Trod enc Try.prog W 0 sp held 40 v d ps) : ∃ ls, Gss W v ls ∧ ls.length ≤ 9223372036854775807 ∧ ∀ l ∈ ls, l.length ≤ 9223372036854775807 := by
  obtain ⟨a0, len, cap, rfl⟩ := okWide_slice Try.underlying40 hv
  obtain ⟨fuel, hf⟩ := h
  exact gss_of hf
theorem ks_of {v : Value} {n : Nat} {y : DataW H × List MemPlace} (h : DataW.trod enc Try.prog W 0 (fun _ => true) held n 39 [v] = some y) : ∃ A m c, v = .slice A m c ∧ Ks W A m := by
  rcases open_slice Try.underlying39 h with ⟨hcs, _⟩ | ⟨a, len, cap, m, k, D, Pl, hcs, _, hl, hm, hmm, _, hx⟩
  · simp at hcs
    subst hcs
    exact ⟨none, 0, 0, rfl, by omega, fun i hi => by omega⟩
  · simp at hcs
    subst hcs
    have hlm : len ≤ m := by rw [hmm]; split <;> omega
    refine ⟨some a, len, cap, rfl, by unfold maxLen at hm; omega, fun i hi => ?_⟩
    obtain ⟨cs', h1, h2⟩ := hx i (by omega)
    rw [cells69] at h1
    obtain ⟨_, hlen, hcell⟩ := World.cells?_some h1
    obtain ⟨y0, y1, y2, q, _, _, t0, t1, t2⟩ := trod_struct3 Try.underlying69 h2
    have e0 := hcell 0 (by omega)
    have e1 := hcell 1 (by omega)
    have e2 := hcell 2 (by omega)
    match cs', hlen with
    | [v0, v1, v2], _ =>
      have c32 : Try.prog.cellsOf 35 = 1 := by kernel_rfl
      simp [c32, cells3] at t0 t1 t2
      obtain ⟨A1, m1, c1, f1, rfl, k1⟩ := ia_of t0
      obtain ⟨A2, m2, c2, f2, rfl, k2⟩ := ia_of t1
      obtain ⟨z, e, _, _⟩ := DataW.trod_int Try.underlying3 t2
      simp at e
      subst e
      obtain ⟨b, off, spot⟩ := a
      have hspot : spot = none := by
        obtain ⟨cs0, g1, _⟩ := hx 0 (by omega)
        rw [cells69] at g1
        obtain ⟨_, glen, gcell⟩ := World.cells?_some g1
        match cs0, glen with
        | [x0, x1, x2], _ =>
          have g0 := gcell 0 (by omega)
          simp only [List.getElem?_cons_zero] at g0
          have := World.cell?_spot g0
          simpa [Addr.add] using this
      subst hspot
      rw [Addr.add_lit, Addr.add_lit] at e0 e1 e2
      exact ⟨b, off, A1, m1, c1, A2, m2, c2, z, f1, f2, rfl, by simpa using e0, by simpa using e1, by simpa using e2, k1, k2⟩
set_option maxRecDepth 100000 in
theorem open_ks {r : Reach} {b0 : Nat} {v : Value} {d : DataW H} {ps : List MemPlace} (hv : Value.okWide Try.prog W r b0 39 v) (h : DataW.Trod enc Try.prog W 0 (fun _ => true) held 39 v d ps) : ∃ A m c, v = .slice A m c ∧ Ks W A m := by
  obtain ⟨a0, len, cap, rfl⟩ := okWide_slice Try.underlying39 hv
  obtain ⟨fuel, hf⟩ := h
  exact ks_of hf
end Go.Proofs.Ytgiepgbjkkhniaa
