/-
  One field of a node stored: its attributes, its text, its parent, its kids.
-/
import Derived.Test.YtdbnhpghemlkbaaAdd
namespace Go.Proofs.Ytdbnhpghemlkbaa
open Go.RowKit Go.PlainAid Dm
set_option maxRecDepth 100000

section
variable {ro : Ros} {w w1 : World} {v' : Value} {r : Nat}
theorem setRo_old2 (hlt : ∀ k, ro k ≠ 0 → k < w.heap.size) (hv : ∀ g, v'.ownBlock = some g → ro g = r ∨ w.heap.size ≤ g) : ∀ k, ro k ≠ 0 → setRo ro v' r k = ro k := by
  intro k hk
  unfold setRo
  split
  · rename_i e
    rcases hv k e with h | h
    · exact h.symm
    · have := hlt _ hk
      omega
  · rfl
theorem setRo_new2 (hv : ∀ g, v'.ownBlock = some g → ro g = r ∨ w.heap.size ≤ g) : ∀ k, setRo ro v' r k ≠ 0 → ro k ≠ 0 ∨ w.heap.size ≤ k := by
  intro k hk
  unfold setRo at hk
  split at hk
  · rename_i e
    rcases hv k e with h | h
    · exact Or.inl (by rw [h]; exact hk)
    · exact Or.inr h
  · exact Or.inl hk
end

section
variable {M : Mo} {ro : Ros} {w : World} {D N c : Nat} {fv : Value} {av kv : Nat → Value} {s : St}
/-- new attributes -/
theorem Rel.setA (h : Rel M ro w D N c fv av kv s) {i : Nat} (hi : i ≤ s.top) (l : List (Tx × Tx)) {v : Value} {w1 : World} (hb : Below w.heap.size w w1) (hown : w1.ownsRow w.heap.size 45 2 v l.length (l.flatMap atC)) (hf : ∀ n : Nd, M.fst { n with attrs := l } = M.fst n) :
    Turn M ro D (s.setAttrs i l) (fun _ => True) w (w1.setCell ⟨N, i * 7 + 4, none⟩ v) := by
  have hv : ∀ g, v.ownBlock = some g → ro g = 4 ∨ w.heap.size ≤ g := fun g hg => Or.inr (hown.lt g hg).1
  have hold := setRo_old2 h.lt hv
  refine ⟨setRo ro v 4, ⟨N, c, fv, up av i v, up kv i (kv i), h.cell hi { s.nd i with attrs := l } v (kv i) (setRo ro v 4) w1 4 v hold (setRo_lt h.lt hb.size (owns_zero hown)) (hb.block N h.nlt) (fun k h0 _ => hb.block k (h.lt k h0)) (by omega) rfl (fun j hj hne => ?_) ⟨owns_zero hown, fun g hg => setRo_at g hg⟩ ?_⟩, hold, setRo_new2 hv, ?_⟩
  · unfold ndC
    rw [hf]
    rcases (show j = 0 ∨ j = 1 ∨ j = 2 ∨ j = 3 ∨ j = 5 ∨ j = 6 by omega) with rfl | rfl | rfl | rfl | rfl | rfl <;> rfl
  · exact (h.ki i hi).same (fun k e => (hold k (by omega)).trans e) (fun k e => hb.block k (h.lt k (by omega)))
  · exact (Kp.of_below hb (fun k => ro k ≠ 0 ∧ True)).setCell (p := ⟨N, i * 7 + 4, none⟩) (fun _ => ⟨by rw [h.rN]; decide, trivial⟩) v
/-- a field of one cell that isn't attributes or kids -/
theorem Rel.setF (h : Rel M ro w D N c fv av kv s) {i : Nat} (hi : i ≤ s.top) (n : Nd) (j0 : Nat) (u : Value) (hj0 : j0 < 7) (hu : (ndC M n (av i) (kv i))[j0]? = some u) (hn : ∀ j, j < 7 → j ≠ j0 → (ndC M n (av i) (kv i))[j]? = (ndC M (s.nd i) (av i) (kv i))[j]?) (ha : n.attrs = (s.nd i).attrs) (hk : n.kids = (s.nd i).kids) :
    Rel M ro (w.setCell ⟨N, i * 7 + j0, none⟩ u) D N c fv (up av i (av i)) (up kv i (kv i)) (s.put i n) :=
  h.cell hi n (av i) (kv i) ro w j0 u (fun _ _ => rfl) h.lt rfl (fun _ _ _ => rfl) hj0 hu hn (by rw [ha]; exact h.ats i hi) (by rw [hk]; exact h.ki i hi)
theorem Rel.setT (h : Rel M ro w D N c fv av kv s) {i : Nat} (hi : i ≤ s.top) (x : Tx) (hf : ∀ n : Nd, M.fst { n with text := x } = M.fst n) :
    Turn M ro D (s.setText i x) (fun _ => True) w (w.setCell ⟨N, i * 7 + 3, none⟩ (.string x)) := by
  refine ⟨ro, ⟨N, c, fv, _, _, h.setF hi { s.nd i with text := x } 3 (.string x) (by omega) rfl (fun j hj hne => ?_) rfl rfl⟩, fun _ _ => rfl, fun _ e => Or.inl e, (Kp.refl (fun k => ro k ≠ 0 ∧ True) w).setCell (p := ⟨N, i * 7 + 3, none⟩) (fun _ => ⟨by rw [h.rN]; decide, trivial⟩) _⟩
  unfold ndC
  rw [hf]
  rcases (show j = 0 ∨ j = 1 ∨ j = 2 ∨ j = 4 ∨ j = 5 ∨ j = 6 by omega) with rfl | rfl | rfl | rfl | rfl | rfl <;> rfl
theorem Rel.setP (h : Rel M ro w D N c fv av kv s) {i : Nat} (hi : i ≤ s.top) (p : Nat) (hf : ∀ n : Nd, M.fst { n with par := p } = M.fst n) :
    Rel M ro (w.setCell ⟨N, i * 7 + 5, none⟩ (.int .i64 p)) D N c fv (up av i (av i)) (up kv i (kv i)) (s.put i { s.nd i with par := p }) := by
  refine h.setF hi { s.nd i with par := p } 5 (.int .i64 p) (by omega) rfl (fun j hj hne => ?_) rfl rfl
  unfold ndC
  rw [hf]
  rcases (show j = 0 ∨ j = 1 ∨ j = 2 ∨ j = 3 ∨ j = 4 ∨ j = 6 by omega) with rfl | rfl | rfl | rfl | rfl | rfl <;> rfl
/-- another row of kids, in the old one's memory or in new one -/
theorem Rel.setK (h : Rel M ro w D N c fv av kv s) {i : Nat} (hi : i ≤ s.top) (l : List Nat) {v : Value} {w1 : World} (hk : Kp (fun k => ro k = 5 + i) w w1) (hown : w1.ownsRow 0 3 1 v l.length (niC l)) (hv : ∀ g, v.ownBlock = some g → ro g = 5 + i ∨ w.heap.size ≤ g) (hf : ∀ n : Nd, M.fst { n with kids := l } = M.fst n) :
    ∃ ro', Rel M ro' (w1.setCell ⟨N, i * 7 + 6, none⟩ v) D N c fv (up av i (av i)) (up kv i v) (s.put i { s.nd i with kids := l }) ∧ (∀ k, ro k ≠ 0 → ro' k = ro k) ∧ (∀ k, ro' k ≠ 0 → ro k ≠ 0 ∨ w.heap.size ≤ k) ∧ Kp (fun k => ro k ≠ 0 ∧ True) w (w1.setCell ⟨N, i * 7 + 6, none⟩ v) := by
  have hold := setRo_old2 h.lt hv
  have hN : ¬ ro N = 5 + i := by rw [h.rN]; omega
  refine ⟨setRo ro v (5 + i), h.cell hi { s.nd i with kids := l } (av i) v (setRo ro v (5 + i)) w1 6 v hold (setRo_lt h.lt hk.size hown) (hk.block N h.nlt hN) (fun k h0 h5 => hk.block k (h.lt k h0) h5) (by omega) rfl (fun j hj hne => ?_) ?_ ⟨hown, fun g hg => setRo_at g hg⟩, hold, setRo_new2 hv, ?_⟩
  · unfold ndC
    rw [hf]
    rcases (show j = 0 ∨ j = 1 ∨ j = 2 ∨ j = 3 ∨ j = 4 ∨ j = 5 by omega) with rfl | rfl | rfl | rfl | rfl | rfl <;> rfl
  · exact (h.ats i hi).same (fun k e => (hold k (by omega)).trans e) (fun k e => hk.block k (h.lt k (by omega)) (by omega))
  · exact (hk.mono (T := fun k => ro k ≠ 0 ∧ True) (fun k _ e => ⟨by omega, trivial⟩)).setCell (p := ⟨N, i * 7 + 6, none⟩) (fun _ => ⟨by rw [h.rN]; decide, trivial⟩) v
end
/-- what calls of true and false answer -/
def Yes (M : Mo) (ro : Ros) (D : Nat) (s' : St) (w : World) (e : Ending) (w' : World) : Prop := e = .returned (.bool true) ∧ Turn M ro D s' (fun _ => True) w w'
def No (w : World) (e : Ending) (w' : World) : Prop := e = .returned (.bool false) ∧ Below w.heap.size w w'
theorem kind0 {n : Nd} : kindI n = 0 ↔ n.live = false := by
  unfold kindI
  split
  · rename_i h; simp [h]
  · rename_i h
    split <;> simp [h]
theorem kind1 {n : Nd} : kindI n = 1 ↔ n.live = true ∧ n.tag ≠ ⟨#[]⟩ := by
  unfold kindI
  split
  · rename_i h; simp [h]
  · rename_i h
    split
    · rename_i e; simp [e]
    · rename_i e; simp [h, e]
theorem kind2 {n : Nd} : kindI n = 2 ↔ n.live = true ∧ n.tag = ⟨#[]⟩ := by
  unfold kindI
  split
  · rename_i h; simp [h]
  · rename_i h
    split
    · rename_i e; simp [h, e]
    · rename_i e; simp [e]
section
variable {s : St}
theorem ndI_live (hv : Inv s) (i : Int) : (ndI s i).live = s.lives i := by
  unfold ndI St.lives
  split
  · rw [decide_eq_false (by omega)]; rfl
  · by_cases h : i = 0
    · subst h; rw [show (0 : Int).toNat = 0 from rfl, hv.zero]; rfl
    · rw [decide_eq_true (by omega)]; simp
theorem ndI_at {i : Int} (h : s.lives i = true) : ndI s i = s.nd i.toNat := by
  have := (lives_spec h).1
  unfold ndI
  rw [if_neg (by omega)]
theorem may_attrs (hv : Inv s) (i : Int) : s.mayAttrs i ↔ kindI (ndI s i) = 1 := by
  rw [kind1, ndI_live hv]
  unfold St.mayAttrs
  constructor
  · rintro ⟨a, b⟩; exact ⟨a, by rw [ndI_at a]; exact b⟩
  · rintro ⟨a, b⟩; exact ⟨a, by rw [ndI_at a] at b; exact b⟩
theorem may_say (hv : Inv s) (i : Int) : s.maySay i ↔ kindI (ndI s i) = 2 := by
  rw [kind2, ndI_live hv]
  unfold St.maySay
  constructor
  · rintro ⟨a, b⟩; exact ⟨a, by rw [ndI_at a]; exact b⟩
  · rintro ⟨a, b⟩; exact ⟨a, by rw [ndI_at a] at b; exact b⟩
theorem lives_nat (hv : Inv s) {i : Int} (h : s.lives i = true) : ∃ k : Nat, i = k ∧ k ≤ s.top ∧ i.toNat = k ∧ k ≠ 0 := by
  obtain ⟨a, b, c⟩ := lives_spec h
  have := (hv.live_pos b).2
  exact ⟨i.toNat, by omega, this, rfl, by omega⟩
end
end Go.Proofs.Ytdbnhpghemlkbaa
