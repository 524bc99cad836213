/-
  What comes in, opened: numbers, calls.
-/
import Derived.Test.YtdbnhpghemlkbaaKp
import Derived.Test.YtdbnhpghemlkbaaRows
import Derived.Lib.SmallJoins
import Derived.Deep.Strs
import Derived.Deep.Grids
import Derived.Deep.Slices
import Derived.Deep.SlicePairs
import Derived.ChangeSlices
import Derived.ChangeMaps5
import Derived.Carry
import Derived.OpenShut
namespace Go.Proofs.Ytdbnhpghemlkbaa
open Go.ChangeShapes Go.WideShapes Go.ChangeAt Go.RowKit Go.Deep
set_option maxRecDepth 100000

theorem laid : laidOutB Try.prog = true := by kernel_rfl
theorem cells3 : Try.prog.cellsOf 3 = 1 := by kernel_rfl
theorem cells9 : Try.prog.cellsOf 9 = 1 := by kernel_rfl
theorem cells41 : Try.prog.cellsOf 41 = 5 := by kernel_rfl
theorem reads51 : Try.prog.readableRec 51 = true := by kernel_rfl
theorem reads37 : Try.prog.readableRec 37 = true := by kernel_rfl
/-- numbers that come in -/
def Ia (w : World) (A : Option Addr) (n : Nat) (f : Nat → Int) : Prop := n ≤ 9223372036854775807 ∧ ∀ i, i < n → ∃ b o, A = some ⟨b, o, none⟩ ∧ w.cell? ⟨b, o + i, none⟩ = some (.int .i64 (f i))
theorem Ia.call {w w' : World} {A : Option Addr} {n : Nat} {f : Nat → Int} (h : Ia w A n f) (hb : Below w.heap.size w w') : Ia w' A n f := by
  refine ⟨h.1, fun i hi => ?_⟩
  obtain ⟨b, o, e, hc⟩ := h.2 i hi
  exact ⟨b, o, e, by rw [hb.cell (World.block_lt_of_cell? w _ hc)]; exact hc⟩

variable {H : Type} {enc : TypeId × Value → H} {W : World} {held : Bool}

theorem ia_of {v : Value} {n : Nat} {y : DataW H × List MemPlace} (h : DataW.trod enc Try.prog W 0 (fun _ => true) held n 51 [v] = some y) : ∃ A l c f, v = .slice A l c ∧ Ia W A l f := by
  rcases open_ints Try.underlying51 Try.underlying3 cells3 h with ⟨hcs, _⟩ | ⟨a, len, cap, zs, hcs, _, hl, hm, hz, _, hcell, _⟩
  · simp at hcs
    exact ⟨none, 0, 0, fun _ => 0, hcs, by omega, fun i hi => by omega⟩
  · simp at hcs
    simp at hz
    refine ⟨some a, len, cap, fun i => zs.getD i 0, hcs, by unfold maxLen at hm; omega, fun i hi => ?_⟩
    obtain ⟨b, off, spot⟩ := a
    have hspot : spot = none := by simpa [Addr.add] using World.cell?_spot (hcell 0 (by omega))
    subst hspot
    refine ⟨b, off, rfl, ?_⟩
    have := hcell i (by omega)
    rw [Addr.add_lit] at this
    exact this
theorem open_ia {r : Reach} {b0 : Nat} {v : Value} {d : DataW H} {ps : List MemPlace} (hv : Value.okWide Try.prog W r b0 51 v) (h : DataW.Trod enc Try.prog W 0 (fun _ => true) held 51 v d ps) : ∃ A l c f, v = .slice A l c ∧ Ia W A l f := by
  obtain ⟨a0, len, cap, rfl⟩ := okWide_slice Try.underlying51 hv
  obtain ⟨fuel, hf⟩ := h
  exact ia_of (n := fuel) (by simpa [Value.cells] using hf)

/-- a call -/
structure Ak where
  k : Int
  a : Int
  b : Int
  t : Int
  s : ByteArray
instance : Inhabited Ak := ⟨⟨0, 0, 0, 0, ⟨#[]⟩⟩⟩
/-- the five cells of a call -/
structure AkAt (w : World) (b o : Nat) (r : Ak) : Prop where
  c0 : w.cell? ⟨b, o, none⟩ = some (.int .i64 r.k)
  c1 : w.cell? ⟨b, o + 1, none⟩ = some (.int .i64 r.a)
  c2 : w.cell? ⟨b, o + 2, none⟩ = some (.int .i64 r.b)
  c3 : w.cell? ⟨b, o + 3, none⟩ = some (.int .i64 r.t)
  c4 : w.cell? ⟨b, o + 4, none⟩ = some (.string r.s)
theorem AkAt.call {w w' : World} {b o : Nat} {r : Ak} (h : AkAt w b o r) (hb : Below w.heap.size w w') : AkAt w' b o r := by
  have k : ∀ (p : Addr) (v : Value), w.cell? p = some v → w'.cell? p = some v := fun p v hc => by rw [hb.cell (World.block_lt_of_cell? w _ hc)]; exact hc
  exact ⟨k _ _ h.c0, k _ _ h.c1, k _ _ h.c2, k _ _ h.c3, k _ _ h.c4⟩
/-- the slice holds n calls, f says which -/
def Aks (w : World) (v : Value) (n : Nat) (f : Nat → Ak) : Prop :=
  ∃ A c, v = .slice A n c ∧ n ≤ c ∧ ∀ i, i < n → ∃ b o, A = some ⟨b, o, none⟩ ∧ AkAt w b (o + i * 5) (f i)
theorem Aks.call {w w' : World} {v : Value} {n : Nat} {f : Nat → Ak} (h : Aks w v n f) (hb : Below w.heap.size w w') : Aks w' v n f := by
  obtain ⟨A, c, h1, h2, h3⟩ := h
  refine ⟨A, c, h1, h2, fun i hi => ?_⟩
  obtain ⟨b, o, ha, hc⟩ := h3 i hi
  exact ⟨b, o, ha, hc.call hb⟩
theorem asks_of {v : Value} {n : Nat} {y : DataW H × List MemPlace} (h : DataW.trod enc Try.prog W 0 (fun _ => true) held n 37 [v] = some y) : ∃ p : Nat × (Nat → Ak), Aks W v p.1 p.2 := by
  rcases open_slice Try.underlying37 h with ⟨hcs, _⟩ | ⟨a, len, cap, m, k, D, Pl, hcs, _, hl, hm, hmm, _, hx⟩
  · simp at hcs
    subst hcs
    exact ⟨(0, fun _ => ⟨0, 0, 0, 0, ⟨#[]⟩⟩), none, 0, rfl, Nat.le_refl _, fun i hi => absurd hi (Nat.not_lt_zero i)⟩
  · simp at hcs
    subst hcs
    have hlm : len ≤ m := by rw [hmm]; split <;> omega
    have each : ∀ i, i < m → ∃ r : Ak, W.cell? (a.add (i * 5)) = some (.int .i64 r.k) ∧ W.cell? (a.add (i * 5 + 1)) = some (.int .i64 r.a) ∧ W.cell? (a.add (i * 5 + 2)) = some (.int .i64 r.b) ∧ W.cell? (a.add (i * 5 + 3)) = some (.int .i64 r.t) ∧ W.cell? (a.add (i * 5 + 4)) = some (.string r.s) := by
      intro i hi
      obtain ⟨cs', h1, h2⟩ := hx i hi
      rw [cells41] at h1
      obtain ⟨_, hlen, hcell⟩ := World.cells?_some h1
      obtain ⟨xs, n, _, hxx, hll, hlenx, hf⟩ := DataW.trod_struct Try.underlying41 h2
      clear hxx hll
      match cs', hlen, xs, hlenx with
      | [v0, v1, v2, v3, v4], _, [y0, y1, y2, y3, y4], _ =>
        have t0 := hf 0 _ rfl
        have t1 := hf 1 _ rfl
        have t2 := hf 2 _ rfl
        have t3 := hf 3 _ rfl
        have t4 := hf 4 _ rfl
        simp [cells9, cells3] at t0 t1 t2 t3 t4
        obtain ⟨z0, e0, _, _⟩ := DataW.trod_int Try.underlying3 t0
        obtain ⟨z1, e1, _, _⟩ := DataW.trod_int Try.underlying3 t1
        obtain ⟨z2, e2, _, _⟩ := DataW.trod_int Try.underlying3 t2
        obtain ⟨z3, e3, _, _⟩ := DataW.trod_int Try.underlying3 t3
        obtain ⟨z4, e4, _, _⟩ := DataW.trod_string Try.underlying9 t4
        simp at e0 e1 e2 e3 e4
        subst e0; subst e1; subst e2; subst e3; subst e4
        have g0 := hcell 0 (by simp)
        have g1 := hcell 1 (by simp)
        have g2 := hcell 2 (by simp)
        have g3 := hcell 3 (by simp)
        have g4 := hcell 4 (by simp)
        rw [Addr.add_add] at g0 g1 g2 g3 g4
        exact ⟨⟨z0, z1, z2, z3, z4⟩, g0, g1, g2, g3, g4⟩
    obtain ⟨X, hX⟩ := choose_lt each
    refine ⟨(len, X), some a, cap, rfl, hl, fun i hi => ?_⟩
    replace hi : i < len := hi
    obtain ⟨b, off, spot⟩ := a
    have hspot : spot = none := by simpa [Addr.add] using World.cell?_spot (hX 0 (by omega)).1
    subst hspot
    obtain ⟨x0, x1, x2, x3, x4⟩ := hX i (by omega)
    rw [Addr.add_lit] at x0 x1 x2 x3 x4
    exact ⟨b, off, rfl, x0, by rw [Nat.add_assoc]; exact x1, by rw [Nat.add_assoc]; exact x2, by rw [Nat.add_assoc]; exact x3, by rw [Nat.add_assoc]; exact x4⟩
theorem open_asks {r : Reach} {b0 : Nat} {v : Value} {d : DataW H} {ps : List MemPlace} (hv : Value.okWide Try.prog W r b0 37 v) (h : DataW.Trod enc Try.prog W 0 (fun _ => true) held 37 v d ps) : ∃ p : Nat × (Nat → Ak), Aks W v p.1 p.2 := by
  obtain ⟨a0, len, cap, rfl⟩ := okWide_slice Try.underlying37 hv
  obtain ⟨fuel, hf⟩ := h
  exact asks_of hf
end Go.Proofs.Ytdbnhpghemlkbaa
