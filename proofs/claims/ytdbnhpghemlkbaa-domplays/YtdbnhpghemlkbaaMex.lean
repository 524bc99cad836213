/-
  What appends and whole stores make of a dom in memory.
-/
import Derived.Test.YtdbnhpghemlkbaaNew
namespace Go.Proofs.Ytdbnhpghemlkbaa
open Go.RowKit Go.PlainAid Dm
set_option maxRecDepth 100000

/-- a row that was appended to bears its purpose -/
def setRo (ro : Ros) (v : Value) (r : Nat) : Ros := fun k => if v.ownBlock = some k then r else ro k
section
variable {ro : Ros} {w w1 : World} {v v' : Value} {r : Nat}
theorem setRo_old (hlt : ∀ k, ro k ≠ 0 → k < w.heap.size) (hr : ∀ g, v.ownBlock = some g → ro g = r) (hv : v'.ownBlock = v.ownBlock ∨ v'.ownBlock = some w.heap.size) : ∀ k, ro k ≠ 0 → setRo ro v' r k = ro k := by
  intro k hk
  unfold setRo
  split
  · rename_i e
    rcases hv with h | h
    · exact (hr k (h ▸ e)).symm
    · rw [h] at e
      cases e
      have := hlt _ hk
      omega
  · rfl
theorem setRo_new (hr : ∀ g, v.ownBlock = some g → ro g = r) (hv : v'.ownBlock = v.ownBlock ∨ v'.ownBlock = some w.heap.size) : ∀ k, setRo ro v' r k ≠ 0 → ro k ≠ 0 ∨ w.heap.size ≤ k := by
  intro k hk
  unfold setRo at hk
  split at hk
  · rename_i e
    rcases hv with h | h
    · exact Or.inl (by rw [hr k (h ▸ e)]; exact hk)
    · rw [h] at e
      cases e
      exact Or.inr (Nat.le_refl _)
  · exact Or.inl hk
theorem setRo_lt {e : TypeId} {size n : Nat} {xs : List Value} (hlt : ∀ k, ro k ≠ 0 → k < w.heap.size) (hz : w.heap.size ≤ w1.heap.size) (hown : w1.ownsRow 0 e size v' n xs) : ∀ k, setRo ro v' r k ≠ 0 → k < w1.heap.size := by
  intro k hk
  unfold setRo at hk
  split at hk
  · rename_i e
    exact (hown.lt k e).2
  · have := hlt k hk
    omega
theorem setRo_at : ∀ g, v'.ownBlock = some g → setRo ro v' r g = r := by
  intro g hg
  unfold setRo
  rw [if_pos hg]
end

section
variable {M : Mo} {ro : Ros} {w : World} {D N c : Nat} {fv : Value} {av kv : Nat → Value} {s : St}
/-- the nodes as a row -/
theorem Rel.nodesRow (h : Rel M ro w D N c fv av kv s) : ∃ xs, w.ownsRow 0 M.tN 7 (.slice (some ⟨N, 0, none⟩) (s.top + 1) c) (s.top + 1) xs ∧ ∀ i, i ≤ s.top → ∀ j, j < 7 → xs[i * 7 + j]? = (ndC M (s.nd i) (av i) (kv i))[j]? := by
  obtain ⟨cur, h1, h2, h3⟩ := h.bN
  have hc := h.cap
  refine ⟨cur.toList.take ((s.top + 1) * 7), ⟨by simp [h2]; omega, .inr ⟨N, c, cur, rfl, Nat.zero_le _, h1, hc.1, hc.2, h2, rfl⟩⟩, fun i hi j hj => ?_⟩
  rw [List.getElem?_take_of_lt (by omega), Array.getElem?_toList]
  exact h3 i hi j hj

/-- a node appended -/
theorem Rel.pushed (h : Rel M ro w D N c fv av kv s) (n : Nd) (ha : n.attrs = []) (hk : n.kids = []) {xs : List Value} (hxl : xs.length = (s.top + 1) * 7) (hx : ∀ i, i ≤ s.top → ∀ j, j < 7 → xs[i * 7 + j]? = (ndC M (s.nd i) (av i) (kv i))[j]?)
    {v' : Value} {w1 : World} (hown : w1.ownsRow 0 M.tN 7 v' (s.top + 1 + 1) (xs ++ ndC M n (.slice none 0 0) (.slice none 0 0))) (hg : w.grownBy w1 (some N)) (hv : v'.ownBlock = some N ∨ v'.ownBlock = some w.heap.size) :
    Turn M ro D { s.put (s.top + 1) n with top := s.top + 1 } (fun _ => True) w (w1.setCell ⟨D, 0, none⟩ v') ∧ ∃ N' c', v' = .slice (some ⟨N', 0, none⟩) (s.top + 2) c' := by
  have hr : ∀ g, (Value.slice (some ⟨N, 0, none⟩) (s.top + 1) c).ownBlock = some g → ro g = 2 := fun g e => by cases e; exact h.rN
  have hold := setRo_old (v' := v') h.lt hr hv
  have hnew := setRo_new hr hv
  have hlt := setRo_lt (r := 2) h.lt hg.size hown
  have hb : ∀ k, ro k ≠ 0 → ro k ≠ 2 → w1.heap[k]? = w.heap[k]? := fun k h0 h2 => hg.block k (h.lt k h0) (fun e => by cases e; exact h2 h.rN)
  obtain ⟨N', c', cur', hv', h1, h2, h3, h4, h5⟩ : ∃ N' c' cur', v' = .slice (some ⟨N', 0, none⟩) (s.top + 2) c' ∧ w1.heap[N']? = some (.cells cur' M.tN (0, 0)) ∧ s.top + 2 ≤ c' ∧ c' ≤ maxLen ∧ cur'.size = c' * 7 ∧ cur'.toList.take ((s.top + 1 + 1) * 7) = xs ++ ndC M n (.slice none 0 0) (.slice none 0 0) := by
    rcases hown.2 with ⟨rfl, e⟩ | ⟨g, cap, cur, rfl, _, a, b, d, e, f⟩
    · omega
    · exact ⟨g, cap, cur, rfl, a, b, d, e, f⟩
  have key : ∀ x, x < (s.top + 1 + 1) * 7 → cur'[x]? = (xs ++ ndC M n (.slice none 0 0) (.slice none 0 0))[x]? := fun x hx => by rw [← h5, List.getElem?_take_of_lt hx, Array.getElem?_toList]
  have hrel := h.push n ha hk N' c' (setRo ro v' 2) w1 cur' hold hlt (setRo_at N' (by rw [hv']; rfl)) hb h1 h4 h2 h3 (fun i hi j hj => by rw [key _ (by omega), List.getElem?_append_left (by omega)]; exact hx i hi j hj) (fun j hj => by rw [key _ (by omega), List.getElem?_append_right (by omega), hxl]; congr 1; omega)
  rw [← hv'] at hrel
  refine ⟨⟨_, ⟨_, _, _, _, _, hrel⟩, hold, hnew, ?_⟩, N', c', hv'⟩
  refine ((Kp.refl (fun k => ro k ≠ 0 ∧ True) w).grown hg (fun k hk e => ?_)).setCell (p := ⟨D, 0, none⟩) (fun _ => ⟨by rw [h.rD]; decide, trivial⟩) v'
  cases e
  exact ⟨by rw [h.rN]; decide, trivial⟩

/-- a node without kids and attributes stored whole -/
theorem Rel.put7 (h : Rel M ro w D N c fv av kv s) {i : Nat} (hi : i ≤ s.top) (n : Nd) (ha : n.attrs = []) (hk : n.kids = []) :
    Rel M ro (((((((w.setCell ⟨N, i * 7, none⟩ (M.fst n)).setCell ⟨N, i * 7 + 1, none⟩ (.string n.tag)).setCell ⟨N, i * 7 + 2, none⟩ (.string n.key)).setCell ⟨N, i * 7 + 3, none⟩ (.string n.text)).setCell ⟨N, i * 7 + 4, none⟩ (.slice none 0 0)).setCell ⟨N, i * 7 + 5, none⟩ (.int .i64 n.par)).setCell ⟨N, i * 7 + 6, none⟩ (.slice none 0 0)) D N c fv (up av i (.slice none 0 0)) (up kv i (.slice none 0 0)) (s.put i n) := by
  have hc := h.cap
  refine h.node hi n _ _ ro _ (fun _ _ => rfl) (fun k hk => by simpa [World.setCell] using h.lt k hk) (fun cur e1 e2 e3 => ?_) (fun k hkN _ _ => ?_) (by rw [ha]; exact ats_nil _ _) (by rw [hk]; exact rowI_nil _ _ _)
  · refine ⟨_, blk_setCell (blk_setCell (blk_setCell (blk_setCell (blk_setCell (blk_setCell (blk_setCell e1 _ _) _ _) _ _) _ _) _ _) _ _) _ _, by simpa using e2, fun x hx => ?_, fun j hj => ?_⟩
    · rw [Array.getElem?_setIfInBounds_ne (by omega), Array.getElem?_setIfInBounds_ne (by omega), Array.getElem?_setIfInBounds_ne (by omega), Array.getElem?_setIfInBounds_ne (by omega), Array.getElem?_setIfInBounds_ne (by omega), Array.getElem?_setIfInBounds_ne (by omega), Array.getElem?_setIfInBounds_ne (by omega)]
    · rcases (show j = 0 ∨ j = 1 ∨ j = 2 ∨ j = 3 ∨ j = 4 ∨ j = 5 ∨ j = 6 by omega) with rfl | rfl | rfl | rfl | rfl | rfl | rfl <;>
        (try simp only [Nat.add_zero]) <;> (repeat (first | rw [Array.getElem?_setIfInBounds_self_of_lt (by first | omega | (simp; omega))] | rw [Array.getElem?_setIfInBounds_ne (by omega)])) <;> rfl
  · rw [Below.heap_setCell _ _ _ _ hkN, Below.heap_setCell _ _ _ _ hkN, Below.heap_setCell _ _ _ _ hkN, Below.heap_setCell _ _ _ _ hkN, Below.heap_setCell _ _ _ _ hkN, Below.heap_setCell _ _ _ _ hkN, Below.heap_setCell _ _ _ _ hkN]
theorem kp7 {S : Nat → Prop} {a w : World} (h : Kp S a w) {N : Nat} (hN : N < a.heap.size → S N) (o : Nat) (u0 u1 u2 u3 u4 u5 u6 : Value) :
    Kp S a (((((((w.setCell ⟨N, o, none⟩ u0).setCell ⟨N, o + 1, none⟩ u1).setCell ⟨N, o + 2, none⟩ u2).setCell ⟨N, o + 3, none⟩ u3).setCell ⟨N, o + 4, none⟩ u4).setCell ⟨N, o + 5, none⟩ u5).setCell ⟨N, o + 6, none⟩ u6) :=
  ((((((h.setCell (p := ⟨N, o, none⟩) hN _).setCell (p := ⟨N, o + 1, none⟩) hN _).setCell (p := ⟨N, o + 2, none⟩) hN _).setCell (p := ⟨N, o + 3, none⟩) hN _).setCell (p := ⟨N, o + 4, none⟩) hN _).setCell (p := ⟨N, o + 5, none⟩) hN _).setCell (p := ⟨N, o + 6, none⟩) hN _

/-- the last one taken off a row -/
theorem RowI.pop {v : Value} {l : List Nat} {r i : Nat} {A : Option Addr} {n f : Nat} (h : RowI ro w v (l ++ [i]) r) (e : v = .slice A n f) : n = l.length + 1 ∧ (∃ F, A = some ⟨F, 0, none⟩ ∧ ro F = r ∧ w.cell? ⟨F, l.length, none⟩ = some (.int .i64 i)) ∧ RowI ro w (.slice A l.length f) l r := by
  obtain ⟨⟨hl, hr⟩, hro⟩ := h
  have hlen : (l ++ [i]).length = l.length + 1 := by simp
  rw [hlen] at hl hr
  rcases hr with ⟨rfl, e0⟩ | ⟨g, cap, cur, rfl, hb, hgg, h1, h2, h3, h4⟩
  · omega
  · cases e
    have hc : cur[l.length]? = some (.int .i64 i) := by
      have : (niC (l ++ [i]))[l.length]? = some (.int .i64 i) := by rw [niC_app, List.getElem?_append_right (by rw [niC_len]; omega), niC_len]; simp [niC]
      rw [← h4, List.getElem?_take_of_lt (by omega), Array.getElem?_toList] at this
      exact this
    refine ⟨rfl, ⟨g, rfl, hro g rfl, by rw [blk_cell hgg]; exact hc⟩, ⟨by rw [niC_len]; omega, .inr ⟨g, _, cur, rfl, hb, hgg, by omega, h2, h3, ?_⟩⟩, fun g' hg' => hro g' hg'⟩
    have := congrArg (List.take l.length) h4
    have e1 : (niC l).take l.length = niC l := List.take_of_length_le (by rw [niC_len]; omega)
    rw [List.take_take, niC_app, List.take_append_of_le_length (by rw [niC_len]; omega), e1, show min l.length ((l.length + 1) * 1) = l.length * 1 by omega] at this
    exact this
end
end Go.Proofs.Ytdbnhpghemlkbaa
