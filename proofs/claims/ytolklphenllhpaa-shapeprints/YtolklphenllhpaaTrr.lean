/-
  Rows of trees that a call makes.
-/
import Derived.Test.YtolklphenllhpaaTre
namespace Go.Proofs.Ytolklphenllhpaa
open Go.RowKit Go.PlainAid
set_option maxRecDepth 100000

theorem set5 (w : World) (T : Nat) (t : TypeId) {cs : Array Value} (u0 u1 u2 u3 u4 : Value) (hT : w.heap[T]? = some (.cells cs t (0, 0))) (hz : cs.size = 5) :
    (((((w.setCell ⟨T, 0, none⟩ u0).setCell ⟨T, 1, none⟩ u1).setCell ⟨T, 2, none⟩ u2).setCell ⟨T, 3, none⟩ u3).setCell ⟨T, 4, none⟩ u4).heap[T]? = some (.cells #[u0, u1, u2, u3, u4] t (0, 0)) ∧
    Kp (fun i => i = T) w (((((w.setCell ⟨T, 0, none⟩ u0).setCell ⟨T, 1, none⟩ u1).setCell ⟨T, 2, none⟩ u2).setCell ⟨T, 3, none⟩ u3).setCell ⟨T, 4, none⟩ u4) := by
  refine ⟨?_, ((((((Kp.refl (fun i => i = T) w).setCell (p := ⟨T, 0, none⟩) (fun _ => rfl) _).setCell (p := ⟨T, 1, none⟩) (fun _ => rfl) _).setCell (p := ⟨T, 2, none⟩) (fun _ => rfl) _).setCell (p := ⟨T, 3, none⟩) (fun _ => rfl) _).setCell (p := ⟨T, 4, none⟩) (fun _ => rfl) _)⟩
  rw [blk_setCell (blk_setCell (blk_setCell (blk_setCell (blk_setCell hT 0 _) 1 _) 2 _) 3 _) 4 _]
  obtain ⟨x0, x1, x2, x3, x4, rfl⟩ : ∃ x0 x1 x2 x3 x4, cs = #[x0, x1, x2, x3, x4] := by
    obtain ⟨l⟩ := cs
    match l, hz with
    | [a, b, c, d, e], _ => exact ⟨a, b, c, d, e, rfl⟩
  rfl
theorem owns_sameB {w w' : World} {B : Nat} {e : TypeId} {size n : Nat} {v : Value} {xs : List Value} (h : w.ownsRow B e size v n xs) (hs : ∀ g, v.ownBlock = some g → w'.heap[g]? = w.heap[g]?) : w'.ownsRow B e size v n xs := by
  refine ⟨h.1, ?_⟩
  rcases h.2 with hn | ⟨g, cap, cur, rfl, hb, hgg, rest⟩
  · exact .inl hn
  · exact .inr ⟨g, cap, cur, rfl, hb, (hs g rfl).trans hgg, rest⟩

/-- a row of trees in memory of the call's own -/
structure TrR (B : Nat) (p : Nat → Prop) (w : World) (v : Value) (vs : List (List Value)) (ts : List Tr) : Prop where
  own : w.ownsRow B 27 5 v vs.length vs.flatten
  five : ∀ x ∈ vs, x.length = 5 ∧ ∀ u ∈ x, u.oneCell' = true
  len : vs.length = ts.length
  tr : ∀ i, i < vs.length → TrW (fun k => p k ∧ v.ownBlock ≠ some k) w (.agg (vs.getD i []).toArray) (ts.getD i tr0)
theorem flat_get {vs : List (List Value)} (h : ∀ x ∈ vs, x.length = 5 ∧ ∀ u ∈ x, u.oneCell' = true) (i j : Nat) (hi : i < vs.length) (hj : j < 5) : vs.flatten[i * 5 + j]? = (vs.getD i [])[j]? := by
  induction vs generalizing i with
  | nil => simp at hi
  | cons x vs ih =>
    have hx := (h x (by simp)).1
    cases i with
    | zero =>
      rw [List.flatten_cons, List.getElem?_append_left (by omega)]
      simp
    | succ i =>
      have := ih (fun y hy => h y (by simp [hy])) i (by simpa using hi)
      rw [List.flatten_cons, List.getElem?_append_right (by omega), hx, show (i + 1) * 5 + j - 5 = i * 5 + j by omega, this]
      simp
section
variable {B : Nat} {p : Nat → Prop} {w : World} {v : Value} {vs : List (List Value)} {ts : List Tr}
theorem trR_nil (B : Nat) (p : Nat → Prop) (w : World) : TrR B p w (.slice none 0 0) [] [] :=
  { own := World.ownsRow_nil _ _ _ _, five := fun x hx => (by cases hx), len := rfl, tr := fun i hi => absurd hi (Nat.not_lt_zero i) }
theorem TrR.call (h : TrR B p w v vs ts) {w' : World} (hb : Below w.heap.size w w') : TrR B p w' v vs ts :=
  ⟨owns_sameB h.own (fun g hg => hb.block g (h.own.lt g hg).2), h.five, h.len, fun i hi => (h.tr i hi).call hb⟩
/-- a block that isn't the row's own, and none of p's, stored into -/
theorem TrR.kp (h : TrR B p w v vs ts) {w' : World} {T : Nat} (hk : Kp (fun k => k = T) w w') (hT : ¬ p T) (hv : v.ownBlock ≠ some T) : TrR B p w' v vs ts :=
  ⟨owns_sameB h.own (fun g hg => hk.block g (h.own.lt g hg).2 (fun e => hv (by rw [hg, e]))), h.five, h.len, fun i hi => (h.tr i hi).frame (fun k hp hl => hk.block k hl (fun e => hT (e ▸ hp.1)))⟩
theorem TrR.push (h : TrR B p w v vs ts) {x : List Value} {t : Tr} (hx : x.length = 5 ∧ ∀ u ∈ x, u.oneCell' = true) (ht : TrW (fun k => p k ∧ v.ownBlock ≠ some k) w (.agg x.toArray) t) {w1 : World} {v1 : Value}
    (ho : w1.ownsRow B 27 5 v1 (vs.length + 1) (vs.flatten ++ x)) (hg : w.grownBy w1 v.ownBlock) (hv : v1.ownBlock = v.ownBlock ∨ v1.ownBlock = some w.heap.size) : TrR B p w1 v1 (vs ++ [x]) (ts ++ [t]) := by
  have key : ∀ {y : Value} {u : Tr}, TrW (fun k => p k ∧ v.ownBlock ≠ some k) w y u → TrW (fun k => p k ∧ v1.ownBlock ≠ some k) w1 y u := by
    intro y u hy
    have h1 : TrW (fun k => (p k ∧ v1.ownBlock ≠ some k) ∧ v.ownBlock ≠ some k) w y u := hy.mono (fun k hp hl => by
      refine ⟨⟨hp.1, ?_⟩, hp.2⟩
      rcases hv with e | e
      · rw [e]; exact hp.2
      · rw [e]
        intro e2
        cases e2
        exact Nat.lt_irrefl _ hl)
    exact (h1.frame (fun k hp hl => hg.block k hl (fun e => hp.2 e.symm))).mono (fun k hp _ => hp.1)
  refine ⟨?_, fun y hy => ?_, by simp [h.len], fun i hi => ?_⟩
  · rw [List.length_append, List.flatten_append]
    simpa using ho
  · rcases List.mem_append.1 hy with e | e
    · exact h.five y e
    · rw [List.mem_singleton] at e
      rw [e]; exact hx
  · by_cases e : i < vs.length
    · have e1 : (vs ++ [x]).getD i [] = vs.getD i [] := by simp [List.getD, List.getElem?_append_left e]
      have e2 : (ts ++ [t]).getD i tr0 = ts.getD i tr0 := by simp [List.getD, List.getElem?_append_left (show i < ts.length by have := h.len; omega)]
      rw [e1, e2]
      exact key (h.tr i e)
    · obtain rfl : i = vs.length := by simp at hi; omega
      have e1 : (vs ++ [x]).getD vs.length [] = x := by simp [List.getD]
      have e2 : (ts ++ [t]).getD vs.length tr0 = t := by rw [h.len]; simp [List.getD]
      rw [e1, e2]
      exact key ht
/-- the tree that has the row as its kids -/
theorem TrR.tree (h : TrR B p w v vs ts) (hp : ∀ k, B ≤ k → p k) {tag key text : Tx} {attrs : List Pr} {av : Value} (hb : attrs.length ≤ 1000000 ∧ ts.length ≤ 1000000) (ha : Ps w av attrs) (hap : ∀ a n c, av = .slice (some a) n c → 0 < attrs.length → p a.block) :
    TrW p w (.agg #[.string tag, .string key, .string text, av, v]) (.mk tag key text attrs ts) := by
  obtain ⟨A, c, e, hc, hA⟩ : ∃ A c, v = .slice A ts.length c ∧ ts.length ≤ c ∧ ∀ i, i < ts.length → ∃ g, A = some ⟨g, 0, none⟩ ∧ B ≤ g ∧ ∀ j, j < 5 → w.cell? ⟨g, i * 5 + j, none⟩ = (vs.getD i [])[j]? := by
    have hcl := @World.ownsRow.cells _ _ _ _ _ _ _ h.own
    rcases h.own.2 with ⟨e, h0⟩ | ⟨g, cap, cur, e, hB, _, h4, _⟩
    · have h1 := h.len
      exact ⟨none, 0, by rw [e, ← h1, h0], by omega, fun i hi => by omega⟩
    · refine ⟨some ⟨g, 0, none⟩, cap, by rw [e, h.len], by rw [← h.len]; exact h4, fun i hi => ⟨g, rfl, hB, fun j hj => ?_⟩⟩
      have h1 := h.len
      have hi' : i < vs.length := by omega
      have h5 := flat_get h.five i j hi' hj
      have hm : vs.getD i [] ∈ vs := by simp [List.getD, hi']
      have hl := (h.five _ hm).1
      have hlt : j < (vs.getD i []).length := by omega
      rw [List.getElem?_eq_getElem hlt] at h5 ⊢
      have := hcl (by rw [e]; rfl) (i * 5 + j) _ h5
      rw [add_lit', Nat.zero_add] at this
      exact this
  subst e
  refine .mk (fun i => .agg (vs.getD i []).toArray) hb ha hap hc (fun i hi => ?_) (fun i hi => (h.tr i (by rw [h.len]; exact hi)).mono (fun k hk _ => hk.1))
  obtain ⟨g, e, hB, hcell⟩ := hA i hi
  have hm : vs.getD i [] ∈ vs := by
    have h1 := h.len
    have hi' : i < vs.length := by omega
    simp [List.getD, hi']
  obtain ⟨x0, x1, x2, x3, x4, hx⟩ : ∃ x0 x1 x2 x3 x4, vs.getD i [] = [x0, x1, x2, x3, x4] := by
    have hl := (h.five _ hm).1
    match vs.getD i [], hl with
    | [a, b, c, d, e], _ => exact ⟨a, b, c, d, e, rfl⟩
  rw [hx] at hcell
  refine ⟨g, 0, x0, x1, x2, x3, x4, e, hp g hB, by rw [hx], ?_, ?_, ?_, ?_, ?_⟩
  all_goals rw [Nat.zero_add]
  · exact hcell 0 (by omega)
  · exact hcell 1 (by omega)
  · exact hcell 2 (by omega)
  · exact hcell 3 (by omega)
  · exact hcell 4 (by omega)
end
end Go.Proofs.Ytolklphenllhpaa
