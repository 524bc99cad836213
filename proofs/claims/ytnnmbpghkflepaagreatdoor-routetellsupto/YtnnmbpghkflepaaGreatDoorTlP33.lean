/-
  Put together: ArgsR.
-/
import Derived.Test.YtnnmbpghkflepaaGreatDoorTlP32
import Derived.Test.YtnnmbpghkflepaaGreatDoorTlP29
import Derived.Test.YtnnmbpghkflepaaGreatDoorRows
import Derived.Deep.Slices
namespace Go.Proofs.YtnnmbpghkflepaaGreatDoor
open Go.ChangeShapes Go.WideShapes Go.ChangeAt Go.RowKit Go.Deep

theorem cells49 : Tryz.prog.cellsOf 49 = 2 := by kernel_rfl
theorem cells40 : Tryz.prog.cellsOf 40 = 2 := by kernel_rfl
theorem reads31 : Tryz.prog.readableRec 31 = true := by kernel_rfl
theorem reads28 : Tryz.prog.readableRec 28 = true := by kernel_rfl

theorem bulk_in {H : Type} {d : DataW H} : ∀ {l : List (DataW H)}, d ∈ l → Rows.uptoBulk d ≤ Rows.uptoBulkAll l
  | [], h => by cases h
  | x :: r, h => by
    rw [List.mem_cons] at h
    rw [Rows.uptoBulkAll]
    rcases h with rfl | h
    · omega
    · have := bulk_in h
      omega
theorem bulk_elem {H : Type} {d : DataW H} {l s : List (DataW H)} (h : d ∈ l) : Rows.uptoBulk d ≤ Rows.uptoBulk (.slice l s) := by
  have := bulk_in h
  rw [Rows.uptoBulk]
  omega
theorem bulk_str {H : Type} (s : ByteArray) : s.size ≤ Rows.uptoBulk (DataW.lit (H := H) (.string s.data.toList)) := by
  rw [Rows.uptoBulk]
  rw [Lib.size_eq]
  simp

variable {H : Type} {enc : TypeId × Value → H} {W : World} {sp : Nat → Bool} {held : Bool}

theorem gs_ofB {v : Value} {n : Nat} {y : DataW H × List MemPlace} (h : DataW.trod enc Tryz.prog W 0 sp held n 50 [v] = some y) : ∃ l, Gs W v l ∧ l.length ≤ 9223372036854775807 ∧ ∀ g ∈ l, g.2.size ≤ Rows.uptoBulk y.1 := by
  rcases open_slice_pairs Tryz.underlying50 Tryz.underlying49 cells49 rfl rfl (by kernel_rfl) (by kernel_rfl) h with ⟨hcs, _⟩ | ⟨a, len, cap, m, k, V0, V1, D0, D1, P0, P1, hcs, hx1, hl, hx2, hm, hx3, hcell⟩
  · simp at hcs
    subst hcs
    exact ⟨[], gs_nil _, by simp, by simp⟩
  · simp at hcs
    subst hcs
    have hlm : len ≤ m := by rw [hm]; split <;> omega
    have each : ∀ i, i < m → ∃ x : Sg, W.cell? (a.add (i * 2)) = some (.int .i64 x.1) ∧ W.cell? (a.add (i * 2 + 1)) = some (.string x.2) ∧ D1 i = .lit (.string x.2.data.toList) := by
      intro i hi
      obtain ⟨h1, h2, h3, h4⟩ := hcell i hi
      obtain ⟨s, e1, _, _⟩ := DataW.trod_int Tryz.underlying3 h3
      obtain ⟨t, e2, e3, _⟩ := DataW.trod_string Tryz.underlying9 h4
      simp at e1 e2
      simp only [Prod.mk.injEq] at e3
      rw [e1] at h1
      rw [e2] at h2
      exact ⟨(s, t), h1, h2, e3.1⟩
    obtain ⟨X, hX⟩ := choose_lt each
    have hlen : ((List.range len).map X).length = len := by simp
    refine ⟨(List.range len).map X, ⟨some a, cap, by rw [hlen], by rw [hlen]; exact hl, (fun h => by cases h), fun i hi => ?_⟩, ?_, ?_⟩
    · rw [hlen] at hi
      have hg : ((List.range len).map X).getD i default = X i := by simp [List.getD, hi]
      obtain ⟨b, off, spot⟩ := a
      have h0 := hX i (by omega)
      have hspot : spot = none := by simpa [Addr.add] using World.cell?_spot (hX 0 (by omega)).1
      subst hspot
      rw [hg]
      refine ⟨b, off, rfl, ?_, ?_⟩
      · have := h0.1
        rw [Addr.add_lit] at this
        exact this
      · have := h0.2.1
        rw [Addr.add_lit, ← Nat.add_assoc] at this
        exact this
    · rw [hlen]
      unfold maxLen at hx2
      omega
    · intro g hg
      rw [List.mem_map] at hg
      obtain ⟨i, hi, rfl⟩ := hg
      rw [List.mem_range] at hi
      have h1 := (hX i (by omega)).2.2
      rw [hx3]
      have h2 : Rows.uptoBulk (DataW.agg [D0 i, D1 i]) ≤ Rows.uptoBulk (.slice ((List.range len).map fun i => DataW.agg [D0 i, D1 i]) ((List.range (m - len)).map fun j => DataW.agg [D0 (len + j), D1 (len + j)])) :=
        bulk_elem (by rw [List.mem_map]; exact ⟨i, by rw [List.mem_range]; exact hi, rfl⟩)
      refine Nat.le_trans ?_ h2
      have h3 := bulk_str (H := H) (X i).2
      rw [← h1] at h3
      rw [Rows.uptoBulk, Rows.uptoBulkAll, Rows.uptoBulkAll]
      omega
theorem ps_ofB {v : Value} {n : Nat} {y : DataW H × List MemPlace} (h : DataW.trod enc Tryz.prog W 0 sp held n 28 [v] = some y) : ∃ l, Ps W v l ∧ l.length ≤ 9223372036854775807 ∧ ∀ g ∈ l, g.2.size ≤ Rows.uptoBulk y.1 := by
  rcases open_slice_pairs Tryz.underlying28 Tryz.underlying40 cells40 rfl rfl (by kernel_rfl) (by kernel_rfl) h with ⟨hcs, _⟩ | ⟨a, len, cap, m, k, V0, V1, D0, D1, P0, P1, hcs, hx1, hl, hx2, hm, hx3, hcell⟩
  · simp at hcs
    subst hcs
    exact ⟨[], ps_nil _, by simp, by simp⟩
  · simp at hcs
    subst hcs
    have hlm : len ≤ m := by rw [hm]; split <;> omega
    have each : ∀ i, i < m → ∃ x : Pr, W.cell? (a.add (i * 2)) = some (.string x.1) ∧ W.cell? (a.add (i * 2 + 1)) = some (.string x.2) ∧ D1 i = .lit (.string x.2.data.toList) := by
      intro i hi
      obtain ⟨h1, h2, h3, h4⟩ := hcell i hi
      obtain ⟨s, e1, _, _⟩ := DataW.trod_string Tryz.underlying9 h3
      obtain ⟨t, e2, e3, _⟩ := DataW.trod_string Tryz.underlying9 h4
      simp at e1 e2
      simp only [Prod.mk.injEq] at e3
      rw [e1] at h1
      rw [e2] at h2
      exact ⟨(s, t), h1, h2, e3.1⟩
    obtain ⟨X, hX⟩ := choose_lt each
    have hlen : ((List.range len).map X).length = len := by simp
    refine ⟨(List.range len).map X, ⟨some a, cap, by rw [hlen], by rw [hlen]; exact hl, (fun h => by cases h), fun i hi => ?_⟩, ?_, ?_⟩
    · rw [hlen] at hi
      have hg : ((List.range len).map X).getD i default = X i := by simp [List.getD, hi]
      obtain ⟨b, off, spot⟩ := a
      have h0 := hX i (by omega)
      have hspot : spot = none := by simpa [Addr.add] using World.cell?_spot (hX 0 (by omega)).1
      subst hspot
      rw [hg]
      refine ⟨b, off, rfl, ?_, ?_⟩
      · have := h0.1
        rw [Addr.add_lit] at this
        exact this
      · have := h0.2.1
        rw [Addr.add_lit, ← Nat.add_assoc] at this
        exact this
    · rw [hlen]
      unfold maxLen at hx2
      omega
    · intro g hg
      rw [List.mem_map] at hg
      obtain ⟨i, hi, rfl⟩ := hg
      rw [List.mem_range] at hi
      have h1 := (hX i (by omega)).2.2
      rw [hx3]
      have h2 : Rows.uptoBulk (DataW.agg [D0 i, D1 i]) ≤ Rows.uptoBulk (.slice ((List.range len).map fun i => DataW.agg [D0 i, D1 i]) ((List.range (m - len)).map fun j => DataW.agg [D0 (len + j), D1 (len + j)])) :=
        bulk_elem (by rw [List.mem_map]; exact ⟨i, by rw [List.mem_range]; exact hi, rfl⟩)
      refine Nat.le_trans ?_ h2
      have h3 := bulk_str (H := H) (X i).2
      rw [← h1] at h3
      rw [Rows.uptoBulk, Rows.uptoBulkAll, Rows.uptoBulkAll]
      omega
set_option maxRecDepth 100000 in
theorem open_segsB {r : Reach} {b0 : Nat} {v : Value} {d : DataW H} {ps : List MemPlace} (hv : Value.okWide Tryz.prog W r b0 50 v) (h : DataW.Trod enc Tryz.prog W 0 sp held 50 v d ps) : ∃ l, Gs W v l ∧ l.length ≤ 9223372036854775807 ∧ ∀ g ∈ l, g.2.size ≤ Rows.uptoBulk d := by
  obtain ⟨a0, len, cap, rfl⟩ := okWide_slice Tryz.underlying50 hv
  obtain ⟨fuel, hf⟩ := h
  exact gs_ofB hf
set_option maxRecDepth 100000 in
theorem open_prsB {r : Reach} {b0 : Nat} {v : Value} {d : DataW H} {ps : List MemPlace} (hv : Value.okWide Tryz.prog W r b0 28 v) (h : DataW.Trod enc Tryz.prog W 0 sp held 28 v d ps) : ∃ l, Ps W v l ∧ l.length ≤ 9223372036854775807 ∧ ∀ g ∈ l, g.2.size ≤ Rows.uptoBulk d := by
  obtain ⟨a0, len, cap, rfl⟩ := okWide_slice Tryz.underlying28 hv
  obtain ⟨fuel, hf⟩ := h
  exact ps_ofB hf
theorem cells59 : Tryz.prog.cellsOf 59 = 8 := by kernel_rfl
theorem cells57 : Tryz.prog.cellsOf 57 = 3 := by kernel_rfl
theorem cells50 : Tryz.prog.cellsOf 50 = 1 := by kernel_rfl
theorem cells4 : Tryz.prog.cellsOf 4 = 1 := by kernel_rfl
theorem cells27 : Tryz.prog.cellsOf 27 = 3 := by kernel_rfl
theorem reads22 : Tryz.prog.readableRec 22 = true := by kernel_rfl
theorem reads27 : Tryz.prog.readableRec 27 = true := by kernel_rfl
theorem list8 {α : Type} {cs : List α} (h : cs.length = 8) : ∃ c0 c1 c2 c3 c4 c5 c6 c7, cs = [c0, c1, c2, c3, c4, c5, c6, c7] := by
  match cs, h with
  | [c0, c1, c2, c3, c4, c5, c6, c7], _ => exact ⟨c0, c1, c2, c3, c4, c5, c6, c7, rfl⟩
theorem rec_of {cs : List Value} {n : Nat} {y : DataW H × List MemPlace} (h : DataW.trod enc Tryz.prog W 0 sp held n 59 cs = some y) :
    ∃ r : Rc, cs = rcC r ∧ Gs W r.u r.l ∧ r.n.size ≤ Rows.uptoBulk y.1 ∧ ∀ g ∈ r.l, g.2.size ≤ Rows.uptoBulk y.1 := by
  obtain ⟨xs, m, _, hx, hl, hlen, hf⟩ := DataW.trod_struct Tryz.underlying59 h
  rw [cells59] at hl
  obtain ⟨v0, v1, v2, v3, v4, v5, v6, v7, rfl⟩ := list8 hl
  match xs, hlen with
  | [y0, y1, y2, y3, y4, y5], _ =>
    have t0 : DataW.trod enc Tryz.prog W 0 sp held m 9 [v0] = some y0 := by simpa [cells9] using hf 0 _ rfl
    have t1 : DataW.trod enc Tryz.prog W 0 sp held m 3 [v1] = some y1 := by simpa [cells3] using hf 1 _ rfl
    have t2 : DataW.trod enc Tryz.prog W 0 sp held m 50 [v2] = some y2 := by simpa [cells50] using hf 2 _ rfl
    have t3 : DataW.trod enc Tryz.prog W 0 sp held m 3 [v3] = some y3 := by simpa [cells3] using hf 3 _ rfl
    have t4 : DataW.trod enc Tryz.prog W 0 sp held m 4 [v4] = some y4 := by simpa [cells4] using hf 4 _ rfl
    have t5 : DataW.trod enc Tryz.prog W 0 sp held m 57 [v5, v6, v7] = some y5 := by simpa [cells57] using hf 5 _ rfl
    obtain ⟨s0, e0, d0, _⟩ := DataW.trod_string Tryz.underlying9 t0
    obtain ⟨i1, e1, _, _⟩ := DataW.trod_int Tryz.underlying3 t1
    obtain ⟨L, hG, _, hz⟩ := gs_ofB t2
    obtain ⟨i3, e3, _, _⟩ := DataW.trod_int Tryz.underlying3 t3
    obtain ⟨b4, e4, _⟩ := DataW.trod_bool Tryz.underlying4 t4
    obtain ⟨zs, m', _, hx', hl', hlen', hf'⟩ := DataW.trod_struct Tryz.underlying57 t5
    match zs, hlen' with
    | [z0, z1, z2], _ =>
      have r0 : DataW.trod enc Tryz.prog W 0 sp held m' 3 [v5] = some z0 := by simpa [cells3] using hf' 0 _ rfl
      have r1 : DataW.trod enc Tryz.prog W 0 sp held m' 3 [v6] = some z1 := by simpa [cells3] using hf' 1 _ rfl
      have r2 : DataW.trod enc Tryz.prog W 0 sp held m' 9 [v7] = some z2 := by simpa [cells9] using hf' 2 _ rfl
      obtain ⟨i5, e5, _, _⟩ := DataW.trod_int Tryz.underlying3 r0
      obtain ⟨i6, e6, _, _⟩ := DataW.trod_int Tryz.underlying3 r1
      obtain ⟨s7, e7, _, _⟩ := DataW.trod_string Tryz.underlying9 r2
      simp only [List.cons.injEq, and_true] at e0 e1 e3 e4 e5 e6 e7
      subst e0 e1 e3 e4 e5 e6 e7
      refine ⟨⟨s0, i1, v2, L, i3, b4, i5, i6, s7⟩, rfl, hG, ?_, fun g hg => ?_⟩
      · have h3 := bulk_str (H := H) s0
        rw [hx]
        have e : Rows.uptoBulk y0.1 = Rows.uptoBulk (DataW.lit (H := H) (.string s0.data.toList)) := by rw [d0]
        simp only [List.map_cons, List.map_nil]
        rw [Rows.uptoBulk, Rows.uptoBulkAll]
        show s0.size ≤ _
        omega
      · have h3 := hz g hg
        rw [hx]
        simp only [List.map_cons, List.map_nil]
        rw [Rows.uptoBulk, Rows.uptoBulkAll, Rows.uptoBulkAll, Rows.uptoBulkAll]
        omega
theorem rs_ofB {v : Value} {n : Nat} {y : DataW H × List MemPlace} (h : DataW.trod enc Tryz.prog W 0 sp held n 22 [v] = some y) : ∃ l, Rs W v l ∧ ∀ r ∈ l, r.n.size ≤ Rows.uptoBulk y.1 ∧ ∀ g ∈ r.l, g.2.size ≤ Rows.uptoBulk y.1 := by
  rcases open_slice Tryz.underlying22 h with ⟨hcs, _⟩ | ⟨a, len, cap, m, k, D, Pl, hcs, hx1, hl, hx2, hm, hx3, hcell⟩
  · simp at hcs
    subst hcs
    exact ⟨[], rs_nil _, by simp⟩
  · simp at hcs
    subst hcs
    have hlm : len ≤ m := by rw [hm]; split <;> omega
    have each : ∀ i, i < m → ∃ r : Rc, W.cells? 0 (a.add (i * 8)) 8 = some (rcC r) ∧ Gs W r.u r.l ∧ r.n.size ≤ Rows.uptoBulk (D i) ∧ ∀ g ∈ r.l, g.2.size ≤ Rows.uptoBulk (D i) := by
      intro i hi
      obtain ⟨cs', h1, h2⟩ := hcell i hi
      obtain ⟨r, rfl, h3, h4, h5⟩ := rec_of h2
      rw [cells59] at h1
      exact ⟨r, h1, h3, h4, h5⟩
    obtain ⟨X, hX⟩ := choose_lt each
    have hlen : ((List.range len).map X).length = len := by simp
    refine ⟨(List.range len).map X, ⟨some a, cap, by rw [hlen], by rw [hlen]; exact hl, (fun h => by cases h), fun i hi => ?_, fun r hr => ?_⟩, fun r hr => ?_⟩
    · rw [hlen] at hi
      have hg : ((List.range len).map X).getD i default = X i := by simp [List.getD, hi]
      obtain ⟨b, off, spot⟩ := a
      have hspot : spot = none := by
        obtain ⟨_, glen, gcell⟩ := World.cells?_some (hX 0 (by omega)).1
        have g0 := gcell 0 (by omega)
        have e0 : (rcC (X 0))[0]? = some (.string (X 0).n) := rfl
        rw [e0] at g0
        have := World.cell?_spot g0
        simpa [Addr.add] using this
      subst hspot
      rw [hg]
      refine ⟨b, off, rfl, RcAt.of fun j hj => ?_⟩
      obtain ⟨_, glen, gcell⟩ := World.cells?_some (hX i (by omega)).1
      have := gcell j hj
      rw [Addr.add_lit, Addr.add_lit] at this
      exact this
    · rw [List.mem_map] at hr
      obtain ⟨i, hi, rfl⟩ := hr
      rw [List.mem_range] at hi
      exact (hX i (by omega)).2.1
    · rw [List.mem_map] at hr
      obtain ⟨i, hi, rfl⟩ := hr
      rw [List.mem_range] at hi
      have h2 : Rows.uptoBulk (D i) ≤ Rows.uptoBulk (.slice ((List.range len).map D) ((List.range (m - len)).map fun j => D (len + j))) :=
        bulk_elem (by rw [List.mem_map]; exact ⟨i, by rw [List.mem_range]; exact hi, rfl⟩)
      rw [hx3]
      exact ⟨Nat.le_trans (hX i (by omega)).2.2.1 h2, fun g hg => Nat.le_trans ((hX i (by omega)).2.2.2 g hg) h2⟩
set_option maxRecDepth 100000 in
theorem open_recs {r : Reach} {b0 : Nat} {v : Value} {d : DataW H} {ps : List MemPlace} (hv : Value.okWide Tryz.prog W r b0 22 v) (h : DataW.Trod enc Tryz.prog W 0 sp held 22 v d ps) : ∃ l, Rs W v l ∧ ∀ r ∈ l, r.n.size ≤ Rows.uptoBulk d ∧ ∀ g ∈ r.l, g.2.size ≤ Rows.uptoBulk d := by
  obtain ⟨a0, len, cap, rfl⟩ := okWide_slice Tryz.underlying22 hv
  obtain ⟨fuel, hf⟩ := h
  exact rs_ofB hf
set_option maxRecDepth 100000 in
theorem open_url {r : Reach} {b0 : Nat} {v : Value} {d : DataW H} {ps : List MemPlace} (hv : Value.okWide Tryz.prog W r b0 27 v) (h : DataW.Trod enc Tryz.prog W 0 (fun _ => true) held 27 v d ps) :
    ∃ A1 n1 c1 A2 n2 c2 A3 n3 c3 f1 f2 f3, v = .agg #[.slice A1 n1 c1, .slice A2 n2 c2, .slice A3 n3 c3] ∧ Ia W A1 n1 f1 ∧ Ia W A2 n2 f2 ∧ Ia W A3 n3 f3 := by
  obtain ⟨v0, v1, v2, y0, y1, y2, n, rfl, _, _, h0, h1, h2⟩ := Joins.open_agg3 Tryz.underlying27 (by kernel_rfl) cells27 hv h
  obtain ⟨A1, n1, c1, f1, rfl, k1⟩ := ia_of h0
  obtain ⟨A2, n2, c2, f2, rfl, k2⟩ := ia_of h1
  obtain ⟨A3, n3, c3, f3, rfl, k3⟩ := ia_of h2
  exact ⟨A1, n1, c1, A2, n2, c2, A3, n3, c3, f1, f2, f3, rfl, k1, k2, k3⟩
end Go.Proofs.YtnnmbpghkflepaaGreatDoor
