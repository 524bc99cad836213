/-
  Records with one thing turned: they aren't right (no program); a record of a row of the call's own with one cell stored.
-/
import Derived.Test.YtnnmbpghkflepaaGreatDoorRecQ
import Derived.Test.YtnnmbpghkflepaaGreatDoorRRs
namespace Go.Proofs.YtnnmbpghkflepaaGreatDoor
open Go.RowKit Go.PlainAid
set_option maxRecDepth 100000

theorem set_get (l : List Rc) (i : Nat) (r : Rc) (hi : i < l.length) : (l.set i r).getD i default = r := by simp [List.getD, hi]
theorem set_other (l : List Rc) (i j : Nat) (r : Rc) (h : j ≠ i) : (l.set i r).getD j default = l.getD j default := by
  simp only [List.getD]
  rw [List.getElem?_set_ne (by omega)]
theorem mem_set {l : List Rc} {i : Nat} {r x : Rc} (h : x ∈ l.set i r) : x = r ∨ x ∈ l := by
  rcases List.mem_or_eq_of_mem_set h with h | h
  · exact Or.inr h
  · exact Or.inl h
theorem fit_set {l : List Rc} {i : Nat} {r : Rc} (h : Fit l) (hr : r.l.length ≤ 10) : Fit (l.set i r) := by
  refine ⟨by rw [List.length_set]; exact h.1, fun x hx => ?_⟩
  rcases mem_set hx with rfl | hx
  · exact hr
  · exact h.2 x hx
theorem fit_app {l : List Rc} {r : Rc} (h : Fit l) (hl : l.length < 20) (hr : r.l.length ≤ 10) : Fit (l ++ [r]) := by
  refine ⟨by simp; omega, fun x hx => ?_⟩
  rw [List.mem_append] at hx
  rcases hx with hx | hx
  · exact h.2 x hx
  · rw [List.mem_singleton] at hx; rw [hx]; exact hr
section
variable {l : List Rc} {i : Nat} {r : Rc}
theorem turn_bad (hi : i < l.length) (h : txB r.n = false ∨ ¬ (-1 ≤ r.p ∧ r.p < (i : Int))) : rtB (l.set i r) = false := by
  refine rt_not (k := i) (by rw [List.length_set]; exact hi) ?_
  rw [okR, set_get l i r hi]
  rcases h with h | h
  · exact ok4 (Or.inl h)
  · exact ok4 (Or.inr (Or.inr (Or.inl (decide_eq_false h))))
theorem rg_rest (A : List Sg) (a b : ByteArray) : rgB (A ++ [(3, a), (0, b)]) = false := by
  refine rg_not (k := A.length) (by simp) ?_
  have e : (A ++ [((3 : Int), a), (0, b)]).getD A.length default = (3, a) := by simp [List.getD]
  have e2 : decide (A.length + 1 = (A ++ [((3 : Int), a), (0, b)]).length) = false := decide_eq_false (by simp)
  rw [okB, e, e2]
  rfl
theorem turn_segs (hp : ParOk l) (hi : i < l.length) (h : r.p = (l.getD i default).p) (a b : ByteArray) (hl : r.l = [(3, a), (0, b)]) : rtB (l.set i r) = false := by
  have hp2 : ParOk (l.set i r) := by
    intro j hj
    rw [List.length_set] at hj
    by_cases e : j = i
    · subst e
      rw [set_get l j r hi, h]
      exact hp j hj
    · rw [set_other l i j r e]
      exact hp j hj
  refine rt_not (k := i) (by rw [List.length_set]; exact hi) ?_
  rw [okR]
  refine ok4 (Or.inr (Or.inr (Or.inr ?_)))
  rw [fu_step hp2 i (by rw [List.length_set]; exact hi), set_get l i r hi, hl]
  exact rg_rest _ _ _
theorem turn_twice (h : nmI l r.n ≠ -1) : rtB (l ++ [r]) = false := by
  refine rt_not (k := l.length) (by simp) ?_
  rw [okR, getD_end l r default _ rfl, List.take_left]
  exact ok4 (Or.inr (Or.inl (decide_eq_false h)))
theorem turn_many (h : 16 < l.length) : rtB l = false := by
  rw [rtB, decide_eq_false (by omega)]
  rfl
theorem rv_no (h : rtB l = false) (s : ByteArray) (q : List Pr) : rvB l s q = false := by rw [rvB, h]; simp
end
theorem OwnR.blk {B : Nat} {w0 : World} {v : Value} {xs : List Rc} {w : World} (h : OwnR B w0 v xs w) (hx : 1 ≤ xs.length) : ∃ g cap cur, v = .slice (some ⟨g, 0, none⟩) xs.length cap ∧ B ≤ g ∧ w.heap[g]? = some (.cells cur 59 (0, 0)) := by
  obtain ⟨⟨_, ⟨rfl, h0⟩ | ⟨g, cap, cur, rfl, hg, hk, _⟩⟩, _⟩ := h
  · omega
  · exact ⟨g, cap, cur, rfl, hg, hk⟩
theorem gt_set {w : World} {v : Value} {l : List Sg} {g : Nat} {cur : Array Value} (h : Gt w v l) (hk : w.heap[g]? = some (.cells cur 59 (0, 0))) (o : Nat) (u : Value) : Gs (w.setCell ⟨g, o, none⟩ u) v l := by
  obtain ⟨A, cap, e, h2, h3, h4⟩ := h.1
  refine ⟨A, cap, e, h2, h3, fun i hi => ?_⟩
  obtain ⟨b, o', ha, hc, hd⟩ := h4 i hi
  obtain ⟨cur', fz, hb⟩ := h.2 b o' l.length cap (by rw [e, ha])
  have hne : b ≠ g := by
    intro e2
    subst e2
    rw [hk] at hb
    cases hb
  have hbl := Below.heap_setCell w ⟨g, o, none⟩ u b hne
  exact ⟨b, o', ha, by rw [World.cell?_of_block (w := w) hbl]; exact hc, by rw [World.cell?_of_block (w := w) hbl]; exact hd⟩
/-- one cell of one record stored -/
theorem rs_set {B : Nat} {w0 : World} {g n c : Nat} {xs : List Rc} {w : World} (h : OwnR B w0 (.slice (some ⟨g, 0, none⟩) n c) xs w) {cur : Array Value} (hk : w.heap[g]? = some (.cells cur 59 (0, 0))) {i j : Nat} (hi : i < xs.length) (hj : j < 8) {u : Value} {r : Rc}
    (hr : rcC r = (rcC (xs.getD i default)).set j u) (hg : Gs (w.setCell ⟨g, i * 8 + j, none⟩ u) r.u r.l) : Rs (w.setCell ⟨g, i * 8 + j, none⟩ u) (.slice (some ⟨g, 0, none⟩) n c) (xs.set i r) := by
  have hrs := h.rs
  obtain ⟨A, cap, e, h2, h3, h4, h5⟩ := hrs
  cases e
  refine ⟨some ⟨g, 0, none⟩, c, by rw [List.length_set], by rw [List.length_set]; exact h2, (fun e => by cases e), fun k hk' => ⟨g, 0, rfl, RcAt.of fun m hm => ?_⟩, fun x hx => ?_⟩
  · rw [List.length_set] at hk'
    obtain ⟨b, o, ha, hat⟩ := h4 k hk'
    obtain ⟨rfl, rfl, -⟩ := Addr.mk.inj (Option.some.inj ha)
    have hold : ∀ v, (rcC (xs.getD k default))[m]? = some v → cur[k * 8 + m]? = some v := by
      intro v hv
      have := hat.to m v hv
      rw [blk_cell hk] at this
      simpa using this
    have hlen : (rcC (xs.getD k default)).length = 8 := rfl
    have hm2 : m < (rcC (xs.getD k default)).length := by omega
    have hcm := hold _ (List.getElem?_eq_getElem hm2)
    rw [blk_cell (blk_setCell hk _ _), Nat.zero_add, Array.getElem?_setIfInBounds]
    by_cases e : k = i
    · subst e
      rw [set_get xs k r hi, hr]
      by_cases e2 : m = j
      · subst e2
        have hsz : k * 8 + m < cur.size := (Array.getElem?_eq_some_iff.1 hcm).1
        rw [if_pos rfl, if_pos hsz, List.getElem?_set_self (by omega)]
      · rw [if_neg (by omega), hcm, List.getElem?_set_ne (by omega), List.getElem?_eq_getElem hm2]
    · rw [set_other xs i k r e, if_neg (by omega), hcm, List.getElem?_eq_getElem hm2]
  · rcases mem_set hx with rfl | hx
    · exact hg
    · exact gt_set (h.2.2.2 x hx) hk _ _
/-- a slice of records that is appended -/
theorem rs_src {w : World} {b o n c : Nat} {l : List Rc} (h : Rs w (.slice (some ⟨b, o, none⟩) n c) l) : ∀ j u, (l.flatMap rcC)[j]? = some u → w.cell? ((⟨b, o, none⟩ : Addr).add j) = some u := by
  intro j u hu
  have hj : j < l.length * 8 := by
    have := (List.getElem?_eq_some_iff.1 hu).1
    rwa [rcC_len] at this
  obtain ⟨A, cap, e, h2, h3, h4, h5⟩ := h
  cases e
  obtain ⟨b', o', ha, hat⟩ := h4 (j / 8) (by omega)
  obtain ⟨rfl, rfl, -⟩ := Addr.mk.inj (Option.some.inj ha)
  have e : j = j / 8 * 8 + j % 8 := by omega
  have e1 := rcC_at l (j / 8) (j % 8) (by omega) (by omega)
  rw [← e, hu] at e1
  have := hat.to (j % 8) u e1.symm
  rw [Addr.add_lit]
  rw [Nat.add_assoc, ← e] at this
  exact this
/-- append(v, x...) of records, x somewhere -/
theorem wpList_appR2 {B : Nat} {w0 : World} {v : Value} {w : World} {xs : List Rc} {ops : Array Oper} {rest : List Oper} {o : Oper} {a : Act} {Q : Exit → Act → World → Prop} (hgd : o.guard = none) (s x : Operand)
    (ho : o.op = .call { callee := .builtin .append, args := #[s, x], argTypes := #[22, 22] })
    (hs : a.eval s = v) (hown : OwnR B w0 v xs w) (hn : xs.length ≤ 1000)
    (ad : Addr) (m c : Nat) (ys : List Rc) (hx : a.eval x = .slice (some ad) m c) (hm : ys.length = m) (hm1 : m ≤ 1000) (hb : ∀ j u, (ys.flatMap rcC)[j]? = some u → w.cell? (ad.add j) = some u) (hy : ∀ r ∈ ys, Gt w r.u r.l)
    (h : ∀ v' w', OwnR B w0 v' (xs ++ ys) w' → w.grownBy w' v.ownBlock → v'.ownBlock = v.ownBlock ∨ v'.ownBlock = some w.heap.size → wpList Tryz.prog ops Q rest (a.put o.dst v') w') : wpList Tryz.prog ops Q (o :: rest) a w :=
  wpList_plain hgd fun _ hK => wp_appR s x ho hs hown hn ad m c ys hx hm hm1 hb hy fun v' w' h2 h3 h4 => hK _ _ (h v' w' h2 h3 h4)
end Go.Proofs.YtnnmbpghkflepaaGreatDoor
