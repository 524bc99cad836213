/-
  What comes in, opened with its bulk: raw patterns, texts.
-/
import Derived.Test.YtgiepgbjkkhniaaArgsT
import Derived.Test.YtgiepgbjkkhniaaRows
namespace Go.Proofs.Ytgiepgbjkkhniaa
set_option maxRecDepth 100000
open Go.ChangeShapes Go.WideShapes Go.ChangeAt Go.RowKit Go.Deep

theorem reads30 : Try.prog.readableRec 30 = true := by kernel_rfl

theorem bulk_in {H : Type} {d : DataW H} : ∀ {l : List (DataW H)}, d ∈ l → Rows.uptoBulk d ≤ Rows.uptoBulkAll l
  | [], h => by cases h
  | x :: r, h => by
    rw [List.mem_cons] at h
    rw [Rows.uptoBulkAll]
    rcases h with rfl | h
    · omega
    · have := bulk_in h
      omega
theorem bulk_elem {H : Type} {d : DataW H} {l s : List (DataW H)} (h : d ∈ l) : Rows.uptoBulk d ≤ Rows.uptoBulk (.slice l s) := by
  have := bulk_in h
  rw [Rows.uptoBulk]
  omega
theorem bulk_str {H : Type} (s : ByteArray) : s.size ≤ Rows.uptoBulk (DataW.lit (H := H) (.string s.data.toList)) := by
  rw [Rows.uptoBulk]
  rw [Lib.size_eq]
  simp

variable {H : Type} {enc : TypeId × Value → H} {W : World} {sp : Nat → Bool} {held : Bool}

theorem gs_ofB {v : Value} {n : Nat} {y : DataW H × List MemPlace} (h : DataW.trod enc Try.prog W 0 sp held n 26 [v] = some y) : ∃ l, Gs W v l ∧ l.length ≤ 9223372036854775807 ∧ ∀ g ∈ l, g.2.size ≤ Rows.uptoBulk y.1 := by
  rcases open_slice_pairs Try.underlying26 Try.underlying23 cells23 rfl rfl (by kernel_rfl) (by kernel_rfl) h with ⟨hcs, _⟩ | ⟨a, len, cap, m, k, V0, V1, D0, D1, P0, P1, hcs, hx1, hl, hx2, hm, hx3, hcell⟩
  · simp at hcs
    subst hcs
    exact ⟨[], gs_nil _, by simp, by simp⟩
  · simp at hcs
    subst hcs
    have hlm : len ≤ m := by rw [hm]; split <;> omega
    have each : ∀ i, i < m → ∃ x : Sg, W.cell? (a.add (i * 2)) = some (.int .i64 x.1) ∧ W.cell? (a.add (i * 2 + 1)) = some (.string x.2) ∧ D1 i = .lit (.string x.2.data.toList) := by
      intro i hi
      obtain ⟨h1, h2, h3, h4⟩ := hcell i hi
      obtain ⟨s, e1, _, _⟩ := DataW.trod_int Try.underlying3 h3
      obtain ⟨t, e2, e3, _⟩ := DataW.trod_string Try.underlying9 h4
      simp at e1 e2
      simp only [Prod.mk.injEq] at e3
      rw [e1] at h1
      rw [e2] at h2
      exact ⟨(s, t), h1, h2, e3.1⟩
    obtain ⟨X, hX⟩ := choose_lt each
    have hlen : ((List.range len).map X).length = len := by simp
    refine ⟨(List.range len).map X, ⟨some a, cap, by rw [hlen], by rw [hlen]; exact hl, (fun h => by cases h), fun i hi => ?_⟩, ?_, ?_⟩
    · rw [hlen] at hi
      have hg : ((List.range len).map X).getD i default = X i := by simp [List.getD, hi]
      obtain ⟨b, off, spot⟩ := a
      have h0 := hX i (by omega)
      have hspot : spot = none := by simpa [Addr.add] using World.cell?_spot (hX 0 (by omega)).1
      subst hspot
      rw [hg]
      refine ⟨b, off, rfl, ?_, ?_⟩
      · have := h0.1
        rw [Addr.add_lit] at this
        exact this
      · have := h0.2.1
        rw [Addr.add_lit, ← Nat.add_assoc] at this
        exact this
    · rw [hlen]
      unfold maxLen at hx2
      omega
    · intro g hg
      rw [List.mem_map] at hg
      obtain ⟨i, hi, rfl⟩ := hg
      rw [List.mem_range] at hi
      have h1 := (hX i (by omega)).2.2
      rw [hx3]
      have h2 : Rows.uptoBulk (DataW.agg [D0 i, D1 i]) ≤ Rows.uptoBulk (.slice ((List.range len).map fun i => DataW.agg [D0 i, D1 i]) ((List.range (m - len)).map fun j => DataW.agg [D0 (len + j), D1 (len + j)])) :=
        bulk_elem (by rw [List.mem_map]; exact ⟨i, by rw [List.mem_range]; exact hi, rfl⟩)
      refine Nat.le_trans ?_ h2
      have h3 := bulk_str (H := H) (X i).2
      rw [← h1] at h3
      rw [Rows.uptoBulk, Rows.uptoBulkAll, Rows.uptoBulkAll]
      omega
theorem ss_ofB {v : Value} {n : Nat} {y : DataW H × List MemPlace} (h : DataW.trod enc Try.prog W 0 sp held n 30 [v] = some y) : ∃ l, Ss W v l ∧ l.length ≤ 9223372036854775807 ∧ ∀ s ∈ l, s.size ≤ Rows.uptoBulk y.1 := by
  rcases open_strs Try.underlying30 Try.underlying9 cells9 h with ⟨hcs, _⟩ | ⟨a, len, cap, m, Sx, hcs, _, hl, hx2, hm, hx3, hcell⟩
  · simp at hcs
    subst hcs
    exact ⟨[], ss_nil _, by simp, by simp⟩
  · simp at hcs
    subst hcs
    have hlm : len ≤ m := by rw [hm]; split <;> omega
    have hlen : ((List.range len).map Sx).length = len := by simp
    refine ⟨(List.range len).map Sx, ⟨some a, cap, by rw [hlen], by rw [hlen]; exact hl, (fun h => by cases h), fun i hi => ?_⟩, ?_, ?_⟩
    · rw [hlen] at hi
      have hg : ((List.range len).map Sx).getD i default = Sx i := by simp [List.getD, hi]
      obtain ⟨b, off, spot⟩ := a
      have h0 := (hcell i (by omega)).1
      have hspot : spot = none := by simpa [Addr.add] using World.cell?_spot (hcell 0 (by omega)).1
      subst hspot
      rw [hg]
      refine ⟨b, off, rfl, ?_⟩
      rw [Addr.add_lit] at h0
      exact h0
    · rw [hlen]
      unfold maxLen at hx2
      omega
    · intro g hg
      rw [List.mem_map] at hg
      obtain ⟨i, hi, rfl⟩ := hg
      rw [hx3]
      exact Nat.le_trans (bulk_str (H := H) (Sx i)) (bulk_elem (by rw [List.mem_map]; exact ⟨i, hi, rfl⟩))
set_option maxRecDepth 100000 in
theorem open_strsB {r : Reach} {b0 : Nat} {v : Value} {d : DataW H} {ps : List MemPlace} (hv : Value.okWide Try.prog W r b0 30 v) (h : DataW.Trod enc Try.prog W 0 sp held 30 v d ps) : ∃ l, Ss W v l ∧ l.length ≤ 9223372036854775807 ∧ ∀ g ∈ l, g.size ≤ Rows.uptoBulk d := by
  obtain ⟨a0, len, cap, rfl⟩ := okWide_slice Try.underlying30 hv
  obtain ⟨fuel, hf⟩ := h
  exact ss_ofB hf
theorem gss_ofB {v : Value} {n : Nat} {y : DataW H × List MemPlace} (h : DataW.trod enc Try.prog W 0 sp held n 40 [v] = some y) : ∃ ls, Gss W v ls ∧ ls.length ≤ 9223372036854775807 ∧ (∀ l ∈ ls, l.length ≤ 9223372036854775807) ∧ ∀ l ∈ ls, ∀ g ∈ l, g.2.size ≤ Rows.uptoBulk y.1 := by
  rcases open_slice1 Try.underlying40 cells26 h with ⟨hcs, _⟩ | ⟨a, len, cap, m, k, V, D, Pl, hcs, hx1, hl, hm, hmm, hx3, hx⟩
  · simp at hcs
    subst hcs
    exact ⟨[], gss_nil _, by simp, by simp, by simp⟩
  · simp at hcs
    subst hcs
    have hlm : len ≤ m := by rw [hmm]; split <;> omega
    have each : ∀ i, i < m → ∃ l : List Sg, W.cell? (a.add i) = some (V i) ∧ Gs W (V i) l ∧ l.length ≤ 9223372036854775807 ∧ ∀ g ∈ l, g.2.size ≤ Rows.uptoBulk (D i) := by
      intro i hi
      obtain ⟨h1, h2⟩ := hx i hi
      obtain ⟨l, h3, h4, h5⟩ := gs_ofB h2
      exact ⟨l, h1, h3, h4, h5⟩
    obtain ⟨X, hX⟩ := choose_lt each
    have hlen : ((List.range len).map X).length = len := by simp
    refine ⟨(List.range len).map X, ⟨some a, cap, by rw [hlen], by rw [hlen]; exact hl, (fun h => by cases h), fun i hi => ?_⟩, ?_, ?_, ?_⟩
    · rw [hlen] at hi
      have hg : ((List.range len).map X).getD i default = X i := by simp [List.getD, hi]
      obtain ⟨b, off, spot⟩ := a
      have h0 := hX i (by omega)
      have hspot : spot = none := by simpa [Addr.add] using World.cell?_spot (hX 0 (by omega)).1
      subst hspot
      rw [hg]
      refine ⟨b, off, V i, rfl, ?_, h0.2.1⟩
      have := h0.1
      rw [Addr.add_lit] at this
      exact this
    · rw [hlen]
      unfold maxLen at hm
      omega
    · intro l hl'
      rw [List.mem_map] at hl'
      obtain ⟨i, hi, rfl⟩ := hl'
      exact (hX i (by have : i < len := by simpa using hi
                      omega)).2.2.1
    · intro l hl' g hg
      rw [List.mem_map] at hl'
      obtain ⟨i, hi, rfl⟩ := hl'
      have hil : i < len := by simpa using hi
      have h1 := (hX i (by omega)).2.2.2 g hg
      refine Nat.le_trans h1 ?_
      rw [hx3]
      exact bulk_elem (by rw [List.mem_map]; exact ⟨i, by rw [List.mem_range]; exact hil, rfl⟩)
theorem open_rawB {r : Reach} {b0 : Nat} {v : Value} {d : DataW H} {ps : List MemPlace} (hv : Value.okWide Try.prog W r b0 40 v) (h : DataW.Trod enc Try.prog W 0 sp held 40 v d ps) : ∃ ls, Gss W v ls ∧ ls.length ≤ 9223372036854775807 ∧ (∀ l ∈ ls, l.length ≤ 9223372036854775807) ∧ ∀ l ∈ ls, ∀ g ∈ l, g.2.size ≤ Rows.uptoBulk d := by
  obtain ⟨a0, len, cap, rfl⟩ := okWide_slice Try.underlying40 hv
  obtain ⟨fuel, hf⟩ := h
  exact gss_ofB hf
end Go.Proofs.Ytgiepgbjkkhniaa
