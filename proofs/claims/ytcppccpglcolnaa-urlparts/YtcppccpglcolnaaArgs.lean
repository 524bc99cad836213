/-
  A URL that came in, opened.
-/
import Derived.Test.YtcppccpglcolnaaFew
import Derived.Lib.SmallJoins
import Derived.Deep.Strs
import Derived.Deep.SlicePairs
import Derived.OpenShut
namespace Go.Proofs.Ytcppccpglcolnaa
open Go.ChangeShapes Go.WideShapes Go.ChangeAt Go.RowKit Go.Deep

theorem cells9 : Try.prog.cellsOf 9 = 1 := by kernel_rfl
theorem cells32 : Try.prog.cellsOf 32 = 2 := by kernel_rfl
theorem cells25 : Try.prog.cellsOf 25 = 2 := by kernel_rfl
theorem laid : laidOutB Try.prog = true := by kernel_rfl
theorem reads25 : Try.prog.readableRec 25 = true := by kernel_rfl

variable {H : Type} {enc : TypeId × Value → H} {W : World} {sp : Nat → Bool} {held : Bool}

theorem sa_of {v : Value} {n : Nat} {y : DataW H × List MemPlace} (h : DataW.trod enc Try.prog W 0 sp held n 22 [v] = some y) : ∃ A l c p, v = .slice A l c ∧ Sa W A l c p := by
  rcases open_strs Try.underlying22 Try.underlying9 cells9 h with ⟨hcs, _⟩ | ⟨a, len, cap, m, Sx, hcs, _, hl, _, hm, _, hcell⟩
  · simp at hcs
    exact ⟨none, 0, 0, [], hcs, rfl, Nat.le_refl _, fun _ => rfl, fun ad ha => by cases ha⟩
  · simp at hcs
    have hlm : len ≤ m := by rw [hm]; split <;> omega
    refine ⟨some a, len, cap, (List.range len).map Sx, hcs, by simp, hl, (fun h => by cases h), fun ad ha j u hu => ?_⟩
    cases ha
    rw [stC_map, List.map_map, List.getElem?_map] at hu
    by_cases hj : j < len
    · rw [List.getElem?_range hj] at hu
      simp at hu
      subst hu
      exact (hcell j (by omega)).1
    · rw [List.getElem?_eq_none (by simp; omega)] at hu
      cases hu
theorem pa_of {v : Value} {n : Nat} {y : DataW H × List MemPlace} (h : DataW.trod enc Try.prog W 0 sp held n 23 [v] = some y) : ∃ A l c p, v = .slice A l c ∧ Pa W A l c p := by
  rcases open_slice_pairs Try.underlying23 Try.underlying32 cells32 rfl rfl (by kernel_rfl) (by kernel_rfl) h with ⟨hcs, _⟩ | ⟨a, len, cap, m, k, V0, V1, D0, D1, P0, P1, hcs, _, hl, _, hm, _, hcell⟩
  · simp at hcs
    exact ⟨none, 0, 0, [], hcs, rfl, Nat.le_refl _, fun _ => rfl, fun ad ha => by cases ha⟩
  · simp at hcs
    have hlm : len ≤ m := by rw [hm]; split <;> omega
    have each : ∀ i, i < m → ∃ x : Pr, W.cell? (a.add (i * 2)) = some (.string x.1) ∧ W.cell? (a.add (i * 2 + 1)) = some (.string x.2) := by
      intro i hi
      obtain ⟨h1, h2, h3, h4⟩ := hcell i hi
      obtain ⟨s, e1, _, _⟩ := DataW.trod_string Try.underlying9 h3
      obtain ⟨t, e2, _, _⟩ := DataW.trod_string Try.underlying9 h4
      simp at e1 e2
      rw [e1] at h1
      rw [e2] at h2
      exact ⟨(s, t), h1, h2⟩
    obtain ⟨X, hX⟩ := choose_lt each
    refine ⟨some a, len, cap, (List.range len).map X, hcs, by simp, hl, (fun h => by cases h), fun ad ha j u hu => ?_⟩
    cases ha
    have hlen : ((List.range len).map X).length = len := by simp
    by_cases hj : j < len * 2
    · obtain ⟨i, hi⟩ : ∃ i, j = i * 2 ∨ j = i * 2 + 1 := ⟨j / 2, by omega⟩
      have hi2 : i < len := by omega
      have hat := prC_at ((List.range len).map X) i (by omega)
      have hg : ((List.range len).map X).getD i default = X i := by simp [List.getD, hi2]
      rw [hg] at hat
      rcases hi with rfl | rfl
      · rw [hat.1] at hu
        cases hu
        exact (hX i (by omega)).1
      · rw [hat.2] at hu
        cases hu
        exact (hX i (by omega)).2
    · rw [List.getElem?_eq_none (by rw [prC_len, hlen]; omega)] at hu
      cases hu
theorem open_url {r : Reach} {b0 : Nat} {v : Value} {d : DataW H} {ps : List MemPlace} (hv : Value.okWide Try.prog W r b0 25 v) (h : DataW.Trod enc Try.prog W 0 sp held 25 v d ps) :
    ∃ A1 n1 c1 A2 n2 c2 p q, v = .agg #[.slice A1 n1 c1, .slice A2 n2 c2] ∧ Sa W A1 n1 c1 p ∧ Pa W A2 n2 c2 q := by
  obtain ⟨v0, v1, y0, y1, n, rfl, _, _, h0, h1⟩ := Joins.open_agg2 Try.underlying25 (by kernel_rfl) cells25 hv h
  obtain ⟨A1, n1, c1, p, rfl, k1⟩ := sa_of h0
  obtain ⟨A2, n2, c2, q, rfl, k2⟩ := pa_of h1
  exact ⟨A1, n1, c1, A2, n2, c2, p, q, rfl, k1, k2⟩
end Go.Proofs.Ytcppccpglcolnaa
