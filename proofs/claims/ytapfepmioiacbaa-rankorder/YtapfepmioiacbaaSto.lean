/-
  A slice of segments that is stored into; what goes ahead with a lesser Kind.
-/
import Derived.Test.YtapfepmioiacbaaRws
namespace Go.Proofs.Ytapfepmioiacbaa
open Go.RowKit Go.PlainAid

theorem OwnG.sto {B : Nat} {w0 : World} {v : Value} {xs : List Sg} {w : World} (h : OwnG B w0 v xs w) {k : Nat} (hk : k < xs.length) :
    ∃ g cap, v = .slice (some ⟨g, 0, none⟩) xs.length cap ∧ B ≤ g ∧ w.cell? ⟨g, k * 2, none⟩ = some (.int .i64 (xs.getD k default).1) ∧ w.cell? ⟨g, k * 2 + 1, none⟩ = some (.string (xs.getD k default).2) ∧ w.frozen? ⟨g, k * 2, none⟩ = false ∧ w.frozen? ⟨g, k * 2 + 1, none⟩ = false ∧
      ∀ t s, Gs ((w.setCell ⟨g, k * 2, none⟩ (.int .i64 t)).setCell ⟨g, k * 2 + 1, none⟩ (.string s)) v (xs.set k (t, s)) ∧ Below B w0 ((w.setCell ⟨g, k * 2, none⟩ (.int .i64 t)).setCell ⟨g, k * 2 + 1, none⟩ (.string s)) := by
  have hgs := h.gs
  obtain ⟨hl, ⟨rfl, h1⟩ | ⟨g, cap, cur, rfl, hB, hb, h4, _, h5, h6⟩⟩ := h.1
  · omega
  · obtain ⟨A, cap', e, hc1, _, hc⟩ := hgs
    simp only [Value.slice.injEq] at e
    obtain ⟨rfl, _, rfl⟩ := e
    have hcell : ∀ i, i < xs.length → w.cell? ⟨g, i * 2, none⟩ = some (.int .i64 (xs.getD i default).1) ∧ w.cell? ⟨g, i * 2 + 1, none⟩ = some (.string (xs.getD i default).2) := by
      intro i hi
      obtain ⟨b, o, e, c1, c2⟩ := hc i hi
      cases e
      rw [Nat.zero_add] at c1 c2
      exact ⟨c1, c2⟩
    refine ⟨g, cap, rfl, hB, (hcell k hk).1, (hcell k hk).2, blk_frozen hb _, blk_frozen hb _, fun t s => ⟨?_, (h.2.1.setCell hB _).setCell hB _⟩⟩
    refine ⟨_, cap, by simp, by simpa using hc1, (fun e => by cases e), fun i hi => ⟨g, 0, rfl, ?_, ?_⟩⟩
    all_goals
      rw [List.length_set] at hi
      have hb2 := blk_setCell (blk_setCell hb (k * 2) (.int .i64 t)) (k * 2 + 1) (.string s)
      have hs := hcell i hi
      rw [blk_cell hb, blk_cell hb] at hs
      rw [blk_cell hb2]
      by_cases e : i = k
      · subst e
        simp [List.getD, hi, Array.getElem?_setIfInBounds]
        omega
      · have e1 : (xs.set k (t, s)).getD i default = xs.getD i default := by simp only [List.getD]; rw [List.getElem?_set_ne (by omega)]
        rw [e1, Nat.zero_add, Array.getElem?_setIfInBounds_ne (by omega), Array.getElem?_setIfInBounds_ne (by omega)]
        first | exact hs.1 | exact hs.2

theorem lx_set (l : List Int) (k : Nat) (hk : k < l.length) (h : l.getD k default = 1) : lx cI (l.set k 0) l = -1 := by
  induction l generalizing k with
  | nil => simp at hk
  | cons x l ih =>
    cases k with
    | zero =>
      simp at h
      subst h
      rw [List.set_cons_zero, lx_cons, if_pos (by decide)]
      decide
    | succ k =>
      rw [List.set_cons_succ, lx_cons, tcI.refl, if_neg (by simp)]
      exact ih k (by simpa using hk) (by simpa using h)
theorem cP_set (l : List Sg) (k : Nat) (t : ByteArray) (hk : k < l.length) (h : (l.getD k default).1 = 1) : cP (l.set k (0, t)) l = -1 := by
  have e : (l.set k (0, t)).map Prod.fst = (l.map Prod.fst).set k 0 := by rw [List.map_set]
  have hx := lx_set (l.map Prod.fst) k (by simpa using hk) (by rw [getD_fst l k hk]; exact h)
  unfold cP
  rw [e, hx]
  rfl
end Go.Proofs.Ytapfepmioiacbaa
