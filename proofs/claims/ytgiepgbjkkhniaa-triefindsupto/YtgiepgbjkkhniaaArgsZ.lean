/-
  What comes in, opened.
-/
import Derived.Test.YtgiepgbjkkhniaaKeep
import Derived.Test.YtgiepgbjkkhniaaFst
import Derived.Test.YtgiepgbjkkhniaaChecked
import Derived.Lib.SmallJoins
import Derived.Deep.Strs
import Derived.Deep.SlicePairs
import Derived.ChangeSlices
import Derived.OpenShut
import Derived.Test.YtgiepgbjkkhniaaSome
import Derived.Deep.Slices
import Derived.Test.YtgiepgbjkkhniaaRows
namespace Go.Proofs.Ytgiepgbjkkhniaa
open Go.ChangeShapes Go.WideShapes Go.ChangeAt Go.RowKit Go.Deep

theorem cells3 : Try.prog.cellsOf 3 = 1 := by kernel_rfl
theorem cells9 : Try.prog.cellsOf 9 = 1 := by kernel_rfl
theorem cells69 : Try.prog.cellsOf 69 = 3 := by kernel_rfl
theorem cells23 : Try.prog.cellsOf 23 = 2 := by kernel_rfl
theorem laid : laidOutB Try.prog = true := by kernel_rfl
theorem reads69 : Try.prog.readableRec 69 = true := by kernel_rfl
theorem reads26 : Try.prog.readableRec 26 = true := by kernel_rfl

variable {H : Type} {enc : TypeId × Value → H} {W : World} {sp : Nat → Bool} {held : Bool}

theorem ia_of {v : Value} {n : Nat} {y : DataW H × List MemPlace} (h : DataW.trod enc Try.prog W 0 (fun _ => true) held n 35 [v] = some y) : ∃ A l c f, v = .slice A l c ∧ Ia W A l f := by
  rcases open_ints Try.underlying35 Try.underlying3 cells3 h with ⟨hcs, _⟩ | ⟨a, len, cap, zs, hcs, _, hl, hm, hz, _, hcell, _⟩
  · simp at hcs
    exact ⟨none, 0, 0, fun _ => 0, hcs, by omega, fun i hi => by omega⟩
  · simp at hcs
    simp at hz
    refine ⟨some a, len, cap, fun i => zs.getD i 0, hcs, by unfold maxLen at hm; omega, fun i hi => ?_⟩
    obtain ⟨b, off, spot⟩ := a
    have hspot : spot = none := by simpa [Addr.add] using World.cell?_spot (hcell 0 (by omega))
    subst hspot
    refine ⟨b, off, rfl, ?_⟩
    have := hcell i (by omega)
    rw [Addr.add_lit] at this
    exact this
set_option maxRecDepth 100000 in
theorem open_pat {r : Reach} {b0 : Nat} {v : Value} {d : DataW H} {ps : List MemPlace} (hv : Value.okWide Try.prog W r b0 69 v) (h : DataW.Trod enc Try.prog W 0 (fun _ => true) held 69 v d ps) :
    ∃ A1 n1 c1 A2 n2 c2 la f1 f2, v = .agg #[.slice A1 n1 c1, .slice A2 n2 c2, .int .i64 la] ∧ Ia W A1 n1 f1 ∧ Ia W A2 n2 f2 := by
  obtain ⟨v0, v1, v2, y0, y1, y2, n, rfl, _, _, h0, h1, h2⟩ := Joins.open_agg3 Try.underlying69 (by kernel_rfl) cells69 hv h
  obtain ⟨A1, n1, c1, f1, rfl, k1⟩ := ia_of h0
  obtain ⟨A2, n2, c2, f2, rfl, k2⟩ := ia_of h1
  obtain ⟨z, e, _, _⟩ := DataW.trod_int Try.underlying3 h2
  simp at e
  subst e
  exact ⟨A1, n1, c1, A2, n2, c2, z, f1, f2, rfl, k1, k2⟩
theorem gs_of {v : Value} {n : Nat} {y : DataW H × List MemPlace} (h : DataW.trod enc Try.prog W 0 sp held n 26 [v] = some y) : ∃ l, Gs W v l ∧ l.length ≤ 9223372036854775807 := by
  rcases open_slice_pairs Try.underlying26 Try.underlying23 cells23 rfl rfl (by kernel_rfl) (by kernel_rfl) h with ⟨hcs, _⟩ | ⟨a, len, cap, m, k, V0, V1, D0, D1, P0, P1, hcs, hx1, hl, hx2, hm, hx3, hcell⟩
  · simp at hcs
    subst hcs
    exact ⟨[], gs_nil _, by simp⟩
  · simp at hcs
    subst hcs
    have hlm : len ≤ m := by rw [hm]; split <;> omega
    have each : ∀ i, i < m → ∃ x : Sg, W.cell? (a.add (i * 2)) = some (.int .i64 x.1) ∧ W.cell? (a.add (i * 2 + 1)) = some (.string x.2) := by
      intro i hi
      obtain ⟨h1, h2, h3, h4⟩ := hcell i hi
      obtain ⟨s, e1, _, _⟩ := DataW.trod_int Try.underlying3 h3
      obtain ⟨t, e2, _, _⟩ := DataW.trod_string Try.underlying9 h4
      simp at e1 e2
      rw [e1] at h1
      rw [e2] at h2
      exact ⟨(s, t), h1, h2⟩
    obtain ⟨X, hX⟩ := choose_lt each
    have hlen : ((List.range len).map X).length = len := by simp
    refine ⟨(List.range len).map X, ⟨some a, cap, by rw [hlen], by rw [hlen]; exact hl, (fun h => by cases h), fun i hi => ?_⟩, ?_⟩
    · rw [hlen] at hi
      have hg : ((List.range len).map X).getD i default = X i := by simp [List.getD, hi]
      obtain ⟨b, off, spot⟩ := a
      have h0 := hX i (by omega)
      have hspot : spot = none := by simpa [Addr.add] using World.cell?_spot (hX 0 (by omega)).1
      subst hspot
      rw [hg]
      refine ⟨b, off, rfl, ?_, ?_⟩
      · have := h0.1
        rw [Addr.add_lit] at this
        exact this
      · have := h0.2
        rw [Addr.add_lit, ← Nat.add_assoc] at this
        exact this
    · rw [hlen]
      unfold maxLen at hx2
      omega
set_option maxRecDepth 100000 in
theorem open_segs {r : Reach} {b0 : Nat} {v : Value} {d : DataW H} {ps : List MemPlace} (hv : Value.okWide Try.prog W r b0 26 v) (h : DataW.Trod enc Try.prog W 0 sp held 26 v d ps) : ∃ l, Gs W v l ∧ l.length ≤ 9223372036854775807 := by
  obtain ⟨a0, len, cap, rfl⟩ := okWide_slice Try.underlying26 hv
  obtain ⟨fuel, hf⟩ := h
  exact gs_of hf
end Go.Proofs.Ytgiepgbjkkhniaa

namespace Go.Proofs.Ytgiepgbjkkhniaa
set_option maxRecDepth 100000
open Go.ChangeShapes Go.WideShapes Go.ChangeAt Go.RowKit Go.Deep

variable {H : Type} {enc : TypeId × Value → H} {W : World} {sp : Nat → Bool} {held : Bool}

/-! slices of patterns -/
theorem cells26 : Try.prog.cellsOf 26 = 1 := by kernel_rfl
theorem reads39 : Try.prog.readableRec 39 = true := by kernel_rfl
theorem reads40 : Try.prog.readableRec 40 = true := by kernel_rfl
theorem gss_of {v : Value} {n : Nat} {y : DataW H × List MemPlace} (h : DataW.trod enc Try.prog W 0 sp held n 40 [v] = some y) : ∃ ls, Gss W v ls ∧ ls.length ≤ 9223372036854775807 ∧ ∀ l ∈ ls, l.length ≤ 9223372036854775807 := by
  rcases open_slice1 Try.underlying40 cells26 h with ⟨hcs, _⟩ | ⟨a, len, cap, m, k, V, D, Pl, hcs, _, hl, hm, hmm, _, hx⟩
  · simp at hcs
    subst hcs
    exact ⟨[], gss_nil _, by simp, by simp⟩
  · simp at hcs
    subst hcs
    have hlm : len ≤ m := by rw [hmm]; split <;> omega
    have each : ∀ i, i < m → ∃ l : List Sg, W.cell? (a.add i) = some (V i) ∧ Gs W (V i) l ∧ l.length ≤ 9223372036854775807 := by
      intro i hi
      obtain ⟨h1, h2⟩ := hx i hi
      obtain ⟨l, h3, h4⟩ := gs_of h2
      exact ⟨l, h1, h3, h4⟩
    obtain ⟨X, hX⟩ := choose_lt each
    have hlen : ((List.range len).map X).length = len := by simp
    refine ⟨(List.range len).map X, ⟨some a, cap, by rw [hlen], by rw [hlen]; exact hl, (fun h => by cases h), fun i hi => ?_⟩, ?_, ?_⟩
    · rw [hlen] at hi
      have hg : ((List.range len).map X).getD i default = X i := by simp [List.getD, hi]
      obtain ⟨b, off, spot⟩ := a
      have h0 := hX i (by omega)
      have hspot : spot = none := by simpa [Addr.add] using World.cell?_spot (hX 0 (by omega)).1
      subst hspot
      rw [hg]
      refine ⟨b, off, V i, rfl, ?_, h0.2.1⟩
      have := h0.1
      rw [Addr.add_lit] at this
      exact this
    · rw [hlen]
      unfold maxLen at hm
      omega
    · intro l hl'
      rw [List.mem_map] at hl'
      obtain ⟨i, hi, rfl⟩ := hl'
      exact (hX i (by have : i < len := by simpa using hi
                      omega)).2.2
set_option maxRecDepth 100000 in
theorem open_raw {r : Reach} {b0 : Nat} {v : Value} {d : DataW H} {ps : List MemPlace} (hv : Value.okWide Try.prog W r b0 40 v) (h : DataW.Trod enc Try.prog W 0 sp held 40 v d ps) : ∃ ls, Gss W v ls ∧ ls.length ≤ 9223372036854775807 ∧ ∀ l ∈ ls, l.length ≤ 9223372036854775807 := by
  obtain ⟨a0, len, cap, rfl⟩ := okWide_slice Try.underlying40 hv
  obtain ⟨fuel, hf⟩ := h
  exact gss_of hf
theorem ks_of {v : Value} {n : Nat} {y : DataW H × List MemPlace} (h : DataW.trod enc Try.prog W 0 (fun _ => true) held n 39 [v] = some y) : ∃ A m c, v = .slice A m c ∧ Ks W A m := by
  rcases open_slice Try.underlying39 h with ⟨hcs, _⟩ | ⟨a, len, cap, m, k, D, Pl, hcs, _, hl, hm, hmm, _, hx⟩
  · simp at hcs
    subst hcs
    exact ⟨none, 0, 0, rfl, by omega, fun i hi => by omega⟩
  · simp at hcs
    subst hcs
    have hlm : len ≤ m := by rw [hmm]; split <;> omega
    refine ⟨some a, len, cap, rfl, by unfold maxLen at hm; omega, fun i hi => ?_⟩
    obtain ⟨cs', h1, h2⟩ := hx i (by omega)
    rw [cells69] at h1
    obtain ⟨_, hlen, hcell⟩ := World.cells?_some h1
    obtain ⟨y0, y1, y2, q, _, _, t0, t1, t2⟩ := trod_struct3 Try.underlying69 h2
    have e0 := hcell 0 (by omega)
    have e1 := hcell 1 (by omega)
    have e2 := hcell 2 (by omega)
    match cs', hlen with
    | [v0, v1, v2], _ =>
      have c32 : Try.prog.cellsOf 35 = 1 := by kernel_rfl
      simp [c32, cells3] at t0 t1 t2
      obtain ⟨A1, m1, c1, f1, rfl, k1⟩ := ia_of t0
      obtain ⟨A2, m2, c2, f2, rfl, k2⟩ := ia_of t1
      obtain ⟨z, e, _, _⟩ := DataW.trod_int Try.underlying3 t2
      simp at e
      subst e
      obtain ⟨b, off, spot⟩ := a
      have hspot : spot = none := by
        obtain ⟨cs0, g1, _⟩ := hx 0 (by omega)
        rw [cells69] at g1
        obtain ⟨_, glen, gcell⟩ := World.cells?_some g1
        match cs0, glen with
        | [x0, x1, x2], _ =>
          have g0 := gcell 0 (by omega)
          simp only [List.getElem?_cons_zero] at g0
          have := World.cell?_spot g0
          simpa [Addr.add] using this
      subst hspot
      rw [Addr.add_lit, Addr.add_lit] at e0 e1 e2
      exact ⟨b, off, A1, m1, c1, A2, m2, c2, z, f1, f2, rfl, by simpa using e0, by simpa using e1, by simpa using e2, k1, k2⟩
set_option maxRecDepth 100000 in
theorem open_ks {r : Reach} {b0 : Nat} {v : Value} {d : DataW H} {ps : List MemPlace} (hv : Value.okWide Try.prog W r b0 39 v) (h : DataW.Trod enc Try.prog W 0 (fun _ => true) held 39 v d ps) : ∃ A m c, v = .slice A m c ∧ Ks W A m := by
  obtain ⟨a0, len, cap, rfl⟩ := okWide_slice Try.underlying39 hv
  obtain ⟨fuel, hf⟩ := h
  exact ks_of hf
end Go.Proofs.Ytgiepgbjkkhniaa

namespace Go.Proofs.Ytgiepgbjkkhniaa
set_option maxRecDepth 100000
open Go.ChangeShapes Go.WideShapes Go.ChangeAt Go.RowKit Go.Deep

theorem cells42 : Try.prog.cellsOf 42 = 3 := by kernel_rfl
theorem reads42 : Try.prog.readableRec 42 = true := by kernel_rfl

variable {H : Type} {enc : TypeId × Value → H} {W : World} {held : Bool}

theorem open_keep {r : Reach} {b0 : Nat} {v : Value} {d : DataW H} {ps : List MemPlace} (hv : Value.okWide Try.prog W r b0 42 v) (h : DataW.Trod enc Try.prog W 0 (fun _ => true) held 42 v d ps) :
    ∃ A1 n1 c1 A2 n2 c2 A3 n3 c3 f1 f2 f3, v = .agg #[.slice A1 n1 c1, .slice A2 n2 c2, .slice A3 n3 c3] ∧ Ia W A1 n1 f1 ∧ Ia W A2 n2 f2 ∧ Ia W A3 n3 f3 := by
  obtain ⟨v0, v1, v2, y0, y1, y2, n, rfl, _, _, h0, h1, h2⟩ := Joins.open_agg3 Try.underlying42 (by kernel_rfl) cells42 hv h
  obtain ⟨A1, n1, c1, f1, rfl, k1⟩ := ia_of h0
  obtain ⟨A2, n2, c2, f2, rfl, k2⟩ := ia_of h1
  obtain ⟨A3, n3, c3, f3, rfl, k3⟩ := ia_of h2
  exact ⟨A1, n1, c1, A2, n2, c2, A3, n3, c3, f1, f2, f3, rfl, k1, k2, k3⟩
end Go.Proofs.Ytgiepgbjkkhniaa

namespace Go.Proofs.Ytgiepgbjkkhniaa
set_option maxRecDepth 100000
open Go.ChangeShapes Go.WideShapes Go.ChangeAt Go.RowKit Go.Deep

theorem reads30 : Try.prog.readableRec 30 = true := by kernel_rfl

theorem bulk_in {H : Type} {d : DataW H} : ∀ {l : List (DataW H)}, d ∈ l → Rows.uptoBulk d ≤ Rows.uptoBulkAll l
  | [], h => by cases h
  | x :: r, h => by
    rw [List.mem_cons] at h
    rw [Rows.uptoBulkAll]
    rcases h with rfl | h
    · omega
    · have := bulk_in h
      omega
theorem bulk_elem {H : Type} {d : DataW H} {l s : List (DataW H)} (h : d ∈ l) : Rows.uptoBulk d ≤ Rows.uptoBulk (.slice l s) := by
  have := bulk_in h
  rw [Rows.uptoBulk]
  omega
theorem bulk_str {H : Type} (s : ByteArray) : s.size ≤ Rows.uptoBulk (DataW.lit (H := H) (.string s.data.toList)) := by
  rw [Rows.uptoBulk]
  rw [Lib.size_eq]
  simp

variable {H : Type} {enc : TypeId × Value → H} {W : World} {sp : Nat → Bool} {held : Bool}

theorem gs_ofB {v : Value} {n : Nat} {y : DataW H × List MemPlace} (h : DataW.trod enc Try.prog W 0 sp held n 26 [v] = some y) : ∃ l, Gs W v l ∧ l.length ≤ 9223372036854775807 ∧ ∀ g ∈ l, g.2.size ≤ Rows.uptoBulk y.1 := by
  rcases open_slice_pairs Try.underlying26 Try.underlying23 cells23 rfl rfl (by kernel_rfl) (by kernel_rfl) h with ⟨hcs, _⟩ | ⟨a, len, cap, m, k, V0, V1, D0, D1, P0, P1, hcs, hx1, hl, hx2, hm, hx3, hcell⟩
  · simp at hcs
    subst hcs
    exact ⟨[], gs_nil _, by simp, by simp⟩
  · simp at hcs
    subst hcs
    have hlm : len ≤ m := by rw [hm]; split <;> omega
    have each : ∀ i, i < m → ∃ x : Sg, W.cell? (a.add (i * 2)) = some (.int .i64 x.1) ∧ W.cell? (a.add (i * 2 + 1)) = some (.string x.2) ∧ D1 i = .lit (.string x.2.data.toList) := by
      intro i hi
      obtain ⟨h1, h2, h3, h4⟩ := hcell i hi
      obtain ⟨s, e1, _, _⟩ := DataW.trod_int Try.underlying3 h3
      obtain ⟨t, e2, e3, _⟩ := DataW.trod_string Try.underlying9 h4
      simp at e1 e2
      simp only [Prod.mk.injEq] at e3
      rw [e1] at h1
      rw [e2] at h2
      exact ⟨(s, t), h1, h2, e3.1⟩
    obtain ⟨X, hX⟩ := choose_lt each
    have hlen : ((List.range len).map X).length = len := by simp
    refine ⟨(List.range len).map X, ⟨some a, cap, by rw [hlen], by rw [hlen]; exact hl, (fun h => by cases h), fun i hi => ?_⟩, ?_, ?_⟩
    · rw [hlen] at hi
      have hg : ((List.range len).map X).getD i default = X i := by simp [List.getD, hi]
      obtain ⟨b, off, spot⟩ := a
      have h0 := hX i (by omega)
      have hspot : spot = none := by simpa [Addr.add] using World.cell?_spot (hX 0 (by omega)).1
      subst hspot
      rw [hg]
      refine ⟨b, off, rfl, ?_, ?_⟩
      · have := h0.1
        rw [Addr.add_lit] at this
        exact this
      · have := h0.2.1
        rw [Addr.add_lit, ← Nat.add_assoc] at this
        exact this
    · rw [hlen]
      unfold maxLen at hx2
      omega
    · intro g hg
      rw [List.mem_map] at hg
      obtain ⟨i, hi, rfl⟩ := hg
      rw [List.mem_range] at hi
      have h1 := (hX i (by omega)).2.2
      rw [hx3]
      have h2 : Rows.uptoBulk (DataW.agg [D0 i, D1 i]) ≤ Rows.uptoBulk (.slice ((List.range len).map fun i => DataW.agg [D0 i, D1 i]) ((List.range (m - len)).map fun j => DataW.agg [D0 (len + j), D1 (len + j)])) :=
        bulk_elem (by rw [List.mem_map]; exact ⟨i, by rw [List.mem_range]; exact hi, rfl⟩)
      refine Nat.le_trans ?_ h2
      have h3 := bulk_str (H := H) (X i).2
      rw [← h1] at h3
      rw [Rows.uptoBulk, Rows.uptoBulkAll, Rows.uptoBulkAll]
      omega
theorem ss_ofB {v : Value} {n : Nat} {y : DataW H × List MemPlace} (h : DataW.trod enc Try.prog W 0 sp held n 30 [v] = some y) : ∃ l, Ss W v l ∧ l.length ≤ 9223372036854775807 ∧ ∀ s ∈ l, s.size ≤ Rows.uptoBulk y.1 := by
  rcases open_strs Try.underlying30 Try.underlying9 cells9 h with ⟨hcs, _⟩ | ⟨a, len, cap, m, Sx, hcs, _, hl, hx2, hm, hx3, hcell⟩
  · simp at hcs
    subst hcs
    exact ⟨[], ss_nil _, by simp, by simp⟩
  · simp at hcs
    subst hcs
    have hlm : len ≤ m := by rw [hm]; split <;> omega
    have hlen : ((List.range len).map Sx).length = len := by simp
    refine ⟨(List.range len).map Sx, ⟨some a, cap, by rw [hlen], by rw [hlen]; exact hl, (fun h => by cases h), fun i hi => ?_⟩, ?_, ?_⟩
    · rw [hlen] at hi
      have hg : ((List.range len).map Sx).getD i default = Sx i := by simp [List.getD, hi]
      obtain ⟨b, off, spot⟩ := a
      have h0 := (hcell i (by omega)).1
      have hspot : spot = none := by simpa [Addr.add] using World.cell?_spot (hcell 0 (by omega)).1
      subst hspot
      rw [hg]
      refine ⟨b, off, rfl, ?_⟩
      rw [Addr.add_lit] at h0
      exact h0
    · rw [hlen]
      unfold maxLen at hx2
      omega
    · intro g hg
      rw [List.mem_map] at hg
      obtain ⟨i, hi, rfl⟩ := hg
      rw [hx3]
      exact Nat.le_trans (bulk_str (H := H) (Sx i)) (bulk_elem (by rw [List.mem_map]; exact ⟨i, hi, rfl⟩))
set_option maxRecDepth 100000 in
theorem open_strsB {r : Reach} {b0 : Nat} {v : Value} {d : DataW H} {ps : List MemPlace} (hv : Value.okWide Try.prog W r b0 30 v) (h : DataW.Trod enc Try.prog W 0 sp held 30 v d ps) : ∃ l, Ss W v l ∧ l.length ≤ 9223372036854775807 ∧ ∀ g ∈ l, g.size ≤ Rows.uptoBulk d := by
  obtain ⟨a0, len, cap, rfl⟩ := okWide_slice Try.underlying30 hv
  obtain ⟨fuel, hf⟩ := h
  exact ss_ofB hf
theorem gss_ofB {v : Value} {n : Nat} {y : DataW H × List MemPlace} (h : DataW.trod enc Try.prog W 0 sp held n 40 [v] = some y) : ∃ ls, Gss W v ls ∧ ls.length ≤ 9223372036854775807 ∧ (∀ l ∈ ls, l.length ≤ 9223372036854775807) ∧ ∀ l ∈ ls, ∀ g ∈ l, g.2.size ≤ Rows.uptoBulk y.1 := by
  rcases open_slice1 Try.underlying40 cells26 h with ⟨hcs, _⟩ | ⟨a, len, cap, m, k, V, D, Pl, hcs, hx1, hl, hm, hmm, hx3, hx⟩
  · simp at hcs
    subst hcs
    exact ⟨[], gss_nil _, by simp, by simp, by simp⟩
  · simp at hcs
    subst hcs
    have hlm : len ≤ m := by rw [hmm]; split <;> omega
    have each : ∀ i, i < m → ∃ l : List Sg, W.cell? (a.add i) = some (V i) ∧ Gs W (V i) l ∧ l.length ≤ 9223372036854775807 ∧ ∀ g ∈ l, g.2.size ≤ Rows.uptoBulk (D i) := by
      intro i hi
      obtain ⟨h1, h2⟩ := hx i hi
      obtain ⟨l, h3, h4, h5⟩ := gs_ofB h2
      exact ⟨l, h1, h3, h4, h5⟩
    obtain ⟨X, hX⟩ := choose_lt each
    have hlen : ((List.range len).map X).length = len := by simp
    refine ⟨(List.range len).map X, ⟨some a, cap, by rw [hlen], by rw [hlen]; exact hl, (fun h => by cases h), fun i hi => ?_⟩, ?_, ?_, ?_⟩
    · rw [hlen] at hi
      have hg : ((List.range len).map X).getD i default = X i := by simp [List.getD, hi]
      obtain ⟨b, off, spot⟩ := a
      have h0 := hX i (by omega)
      have hspot : spot = none := by simpa [Addr.add] using World.cell?_spot (hX 0 (by omega)).1
      subst hspot
      rw [hg]
      refine ⟨b, off, V i, rfl, ?_, h0.2.1⟩
      have := h0.1
      rw [Addr.add_lit] at this
      exact this
    · rw [hlen]
      unfold maxLen at hm
      omega
    · intro l hl'
      rw [List.mem_map] at hl'
      obtain ⟨i, hi, rfl⟩ := hl'
      exact (hX i (by have : i < len := by simpa using hi
                      omega)).2.2.1
    · intro l hl' g hg
      rw [List.mem_map] at hl'
      obtain ⟨i, hi, rfl⟩ := hl'
      have hil : i < len := by simpa using hi
      have h1 := (hX i (by omega)).2.2.2 g hg
      refine Nat.le_trans h1 ?_
      rw [hx3]
      exact bulk_elem (by rw [List.mem_map]; exact ⟨i, by rw [List.mem_range]; exact hil, rfl⟩)
theorem open_rawB {r : Reach} {b0 : Nat} {v : Value} {d : DataW H} {ps : List MemPlace} (hv : Value.okWide Try.prog W r b0 40 v) (h : DataW.Trod enc Try.prog W 0 sp held 40 v d ps) : ∃ ls, Gss W v ls ∧ ls.length ≤ 9223372036854775807 ∧ (∀ l ∈ ls, l.length ≤ 9223372036854775807) ∧ ∀ l ∈ ls, ∀ g ∈ l, g.2.size ≤ Rows.uptoBulk d := by
  obtain ⟨a0, len, cap, rfl⟩ := okWide_slice Try.underlying40 hv
  obtain ⟨fuel, hf⟩ := h
  exact gss_ofB hf
end Go.Proofs.Ytgiepgbjkkhniaa
