/-
  What comes in, opened: entries, calls.
-/
import Derived.Test.YtbkhlmnonjkelaaArgI
import Derived.Test.YtbkhlmnonjkelaaMti
import Derived.Lib.SmallJoins
import Derived.Deep.Strs
import Derived.Deep.SlicePairs
import Derived.Deep.Slices
namespace Go.Proofs.Ytbkhlmnonjkelaa
open Go.ChangeShapes Go.WideShapes Go.ChangeAt Go.RowKit Go.Deep
set_option maxRecDepth 100000

theorem cells3 : Try.prog.cellsOf 3 = 1 := by kernel_rfl
theorem cells9 : Try.prog.cellsOf 9 = 1 := by kernel_rfl
theorem cells26 : Try.prog.cellsOf 26 = 1 := by kernel_rfl
theorem cells28 : Try.prog.cellsOf 28 = 2 := by kernel_rfl
theorem cells38 : Try.prog.cellsOf 38 = 4 := by kernel_rfl
theorem reads32 : Try.prog.readableRec 32 = true := by kernel_rfl
theorem reads36 : Try.prog.readableRec 36 = true := by kernel_rfl

variable {H : Type} {enc : TypeId × Value → H} {W : World} {held : Bool}

theorem entries_of {v : Value} {n : Nat} {y : DataW H × List MemPlace} (h : DataW.trod enc Try.prog W 0 (fun _ => true) held n 32 [v] = some y) : ∃ l, Es W v l ∧ ∀ e ∈ l, U64 e.2 := by
  rcases open_slice Try.underlying32 h with ⟨hcs, _⟩ | ⟨a, len, cap, m, k, D, Pl, hcs, _, hl, hm, hmm, _, hx⟩
  · simp at hcs
    subst hcs
    exact ⟨[], es_nil _, fun e he => by cases he⟩
  · simp at hcs
    subst hcs
    have hlm : len ≤ m := by rw [hmm]; split <;> omega
    have each : ∀ i, i < m → ∃ e : En, W.cell? (a.add (i * 2)) = some (.string e.1) ∧ W.cell? (a.add (i * 2 + 1)) = some (.int .u64 e.2) ∧ U64 e.2 := by
      intro i hi
      obtain ⟨cs', h1, h2⟩ := hx i hi
      rw [cells28] at h1
      obtain ⟨_, hlen, hcell⟩ := World.cells?_some h1
      obtain ⟨y0, y1, q, _, _, t0, t1⟩ := trod_struct2 Try.underlying28 h2
      match cs', hlen with
      | [v0, v1], _ =>
        simp [cells26, cells9] at t0 t1
        obtain ⟨z0, e0, _, _⟩ := DataW.trod_string Try.underlying9 t0
        obtain ⟨z1, e1, _, hw⟩ := DataW.trod_int Try.underlying26 t1
        simp at e0 e1
        subst e0; subst e1
        refine ⟨(z0, z1), ?_, ?_, u64_of hw⟩
        · have := hcell 0 (by simp)
          rw [Addr.add_add] at this
          exact this
        · have := hcell 1 (by simp)
          rw [Addr.add_add] at this
          exact this
    obtain ⟨X, hX⟩ := choose_lt each
    refine ⟨lis X len, ?_, fun e he => ?_⟩
    · refine ⟨some a, cap, by rw [lis_len], by rw [lis_len]; exact hl, (fun h => by cases h), fun i hi => ?_⟩
      rw [lis_len] at hi
      rw [lis_get X len i hi]
      obtain ⟨b, off, spot⟩ := a
      have hspot : spot = none := by simpa [Addr.add] using World.cell?_spot (hX 0 (by omega)).1
      subst hspot
      refine ⟨b, off, rfl, ?_⟩
      obtain ⟨x0, x1, _⟩ := hX i (by omega)
      rw [Addr.add_lit] at x0 x1
      exact ⟨x0, by rw [Nat.add_assoc]; exact x1⟩
    · obtain ⟨i, hi, rfl⟩ := List.mem_map.1 he
      exact (hX i (by have : i < len := by simpa using hi
                      omega)).2.2
theorem open_entries {r : Reach} {b0 : Nat} {v : Value} {d : DataW H} {ps : List MemPlace} (hv : Value.okWide Try.prog W r b0 32 v) (h : DataW.Trod enc Try.prog W 0 (fun _ => true) held 32 v d ps) : ∃ l, Es W v l ∧ ∀ e ∈ l, U64 e.2 := by
  obtain ⟨a0, len, cap, rfl⟩ := okWide_slice Try.underlying32 hv
  obtain ⟨fuel, hf⟩ := h
  exact entries_of hf

/-- a call -/
structure Ak where
  k : Int
  n : Int
  x : Int
  s : ByteArray
instance : Inhabited Ak := ⟨⟨0, 0, 0, ⟨#[]⟩⟩⟩
/-- the four cells of a call -/
structure AkAt (w : World) (b o : Nat) (r : Ak) : Prop where
  c0 : w.cell? ⟨b, o, none⟩ = some (.int .i64 r.k)
  c1 : w.cell? ⟨b, o + 1, none⟩ = some (.int .i64 r.n)
  c2 : w.cell? ⟨b, o + 2, none⟩ = some (.int .u64 r.x)
  c3 : w.cell? ⟨b, o + 3, none⟩ = some (.string r.s)
  hn : -9223372036854775808 ≤ r.n ∧ r.n ≤ 9223372036854775807
  hx : U64 r.x
theorem AkAt.call {w w' : World} {b o : Nat} {r : Ak} (h : AkAt w b o r) (hb : Below w.heap.size w w') : AkAt w' b o r := by
  have k : ∀ (p : Addr) (v : Value), w.cell? p = some v → w'.cell? p = some v := fun p v hc => by rw [hb.cell (World.block_lt_of_cell? w _ hc)]; exact hc
  exact ⟨k _ _ h.c0, k _ _ h.c1, k _ _ h.c2, k _ _ h.c3, h.hn, h.hx⟩
/-- the slice holds n calls, f says which -/
def Aks (w : World) (v : Value) (n : Nat) (f : Nat → Ak) : Prop :=
  ∃ A c, v = .slice A n c ∧ n ≤ c ∧ ∀ i, i < n → ∃ b o, A = some ⟨b, o, none⟩ ∧ AkAt w b (o + i * 4) (f i)
theorem Aks.call {w w' : World} {v : Value} {n : Nat} {f : Nat → Ak} (h : Aks w v n f) (hb : Below w.heap.size w w') : Aks w' v n f := by
  obtain ⟨A, c, h1, h2, h3⟩ := h
  refine ⟨A, c, h1, h2, fun i hi => ?_⟩
  obtain ⟨b, o, ha, hc⟩ := h3 i hi
  exact ⟨b, o, ha, hc.call hb⟩
theorem asks_of {v : Value} {n : Nat} {y : DataW H × List MemPlace} (h : DataW.trod enc Try.prog W 0 (fun _ => true) held n 36 [v] = some y) : ∃ p : Nat × (Nat → Ak), Aks W v p.1 p.2 := by
  rcases open_slice Try.underlying36 h with ⟨hcs, _⟩ | ⟨a, len, cap, m, k, D, Pl, hcs, _, hl, hm, hmm, _, hx⟩
  · simp at hcs
    subst hcs
    exact ⟨(0, fun _ => ⟨0, 0, 0, ⟨#[]⟩⟩), none, 0, rfl, Nat.le_refl _, fun i hi => absurd hi (Nat.not_lt_zero i)⟩
  · simp at hcs
    subst hcs
    have hlm : len ≤ m := by rw [hmm]; split <;> omega
    have each : ∀ i, i < m → ∃ r : Ak, (W.cell? (a.add (i * 4)) = some (.int .i64 r.k) ∧ W.cell? (a.add (i * 4 + 1)) = some (.int .i64 r.n) ∧ W.cell? (a.add (i * 4 + 2)) = some (.int .u64 r.x) ∧ W.cell? (a.add (i * 4 + 3)) = some (.string r.s)) ∧ (-9223372036854775808 ≤ r.n ∧ r.n ≤ 9223372036854775807) ∧ U64 r.x := by
      intro i hi
      obtain ⟨cs', h1, h2⟩ := hx i hi
      rw [cells38] at h1
      obtain ⟨_, hlen, hcell⟩ := World.cells?_some h1
      obtain ⟨y0, y1, y2, y3, q, _, _, t0, t1, t2, t3⟩ := Joins.trod_struct4 Try.underlying38 h2
      match cs', hlen with
      | [v0, v1, v2, v3], _ =>
        simp [cells26, cells9, cells3] at t0 t1 t2 t3
        obtain ⟨z0, e0, _, _⟩ := DataW.trod_int Try.underlying3 t0
        obtain ⟨z1, e1, _, hw1⟩ := DataW.trod_int Try.underlying3 t1
        obtain ⟨z2, e2, _, hw⟩ := DataW.trod_int Try.underlying26 t2
        obtain ⟨z3, e3, _, _⟩ := DataW.trod_string Try.underlying9 t3
        simp at e0 e1 e2 e3
        subst e0; subst e1; subst e2; subst e3
        have m0 : IntKind.i64.min = -9223372036854775808 := rfl
        have m1 : IntKind.i64.max = 9223372036854775807 := rfl
        simp only [Lit.wf, m0, m1, Bool.and_eq_true, decide_eq_true_eq] at hw1
        refine ⟨⟨z0, z1, z2, z3⟩, ⟨?_, ?_, ?_, ?_⟩, hw1, u64_of hw⟩
        · have := hcell 0 (by simp)
          rw [Addr.add_add] at this
          exact this
        · have := hcell 1 (by simp)
          rw [Addr.add_add] at this
          exact this
        · have := hcell 2 (by simp)
          rw [Addr.add_add] at this
          exact this
        · have := hcell 3 (by simp)
          rw [Addr.add_add] at this
          exact this
    obtain ⟨X, hX⟩ := choose_lt each
    refine ⟨(len, X), some a, cap, rfl, hl, fun i hi => ?_⟩
    replace hi : i < len := hi
    obtain ⟨b, off, spot⟩ := a
    have hspot : spot = none := by simpa [Addr.add] using World.cell?_spot (hX 0 (by omega)).1.1
    subst hspot
    obtain ⟨⟨x0, x1, x2, x3⟩, hn, hx⟩ := hX i (by omega)
    rw [Addr.add_lit] at x0 x1 x2 x3
    exact ⟨b, off, rfl, x0, by rw [Nat.add_assoc]; exact x1, by rw [Nat.add_assoc]; exact x2, by rw [Nat.add_assoc]; exact x3, hn, hx⟩
theorem open_asks {r : Reach} {b0 : Nat} {v : Value} {d : DataW H} {ps : List MemPlace} (hv : Value.okWide Try.prog W r b0 36 v) (h : DataW.Trod enc Try.prog W 0 (fun _ => true) held 36 v d ps) : ∃ p : Nat × (Nat → Ak), Aks W v p.1 p.2 := by
  obtain ⟨a0, len, cap, rfl⟩ := okWide_slice Try.underlying36 hv
  obtain ⟨fuel, hf⟩ := h
  exact asks_of hf
end Go.Proofs.Ytbkhlmnonjkelaa
