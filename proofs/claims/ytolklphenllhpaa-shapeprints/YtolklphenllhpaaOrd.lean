/-
  A region that draws its order, walked in one order that is told: what only reads (true), what may come alone (false). One check for the whole order. No program.
-/
import Derived.Test.YtolklphenllhpaaInv
namespace Go.Proofs.Ytolklphenllhpaa
open Go

section
variable {P : Program} {ops : Array Oper} {Q : Exit → Act → World → Prop} {md : Region.Mode} {S : World → Prop} {n : Nat}

/-- the walk in the order that is told -/
def wpOrd (P : Program) (ops : Array Oper) (Q : Exit → Act → World → Prop) (S : World → Prop) : List (Bool × Nat) → Act → World → Prop
  | [], a, w => Q .normal a w
  | (true, i) :: r, a, w => ∃ oi v, ops[i]? = some oi ∧ YieldsIf P ops S oi v a ∧ wpOrd P ops Q S r (a.put oi.dst v) w
  | (false, i) :: r, a, w => wpOp P ops Q i (fun a' w' => S w' ∧ wpOrd P ops Q S r a' w') a w
/-- may the region come so? -/
def ordB (md : Region.Mode) (ops : Array Oper) : List (Bool × Nat) → Array Bool → Bool
  | [], ls => (Region.ready md ops ls).isEmpty
  | (true, i) :: r, ls => Region.free md ops ls i && (Region.ready md ops ls).contains i && ordB md ops r (ls.setIfInBounds i true)
  | (false, i) :: r, ls => decide (Region.ready md ops ls = [i]) && ordB md ops r (ls.setIfInBounds i true)

theorem sink_ord (hs : Region.noSelect ops = true) (hn : ops.size ≤ n) (hQ : ∀ d v c a w, Q (.panic c) (Act.put a d v) w → Q (.panic c) a w) :
    ∀ (ord : List (Bool × Nat)) (m : Nat) (ls : Array Bool) (a : Act) (w : World), ord.length ≤ m → ordB md ops ord ls = true → S w → wpOrd P ops Q S ord a w → wpSink P md ops Q S n m ls a w := by
  intro ord
  induction ord with
  | nil =>
    intro m ls a w _ hb _ h
    exact sink_done (by simpa [ordB] using hb) h
  | cons x r ih =>
    intro m ls a w hm hb hS h
    obtain ⟨m, rfl⟩ : ∃ k, m = k + 1 := ⟨m - 1, by simp at hm; omega⟩
    have hm' : r.length ≤ m := by simpa using hm
    obtain ⟨t, i⟩ := x
    cases t with
    | true =>
      simp only [ordB, Bool.and_eq_true] at hb
      obtain ⟨oi, v, hi, hy, h⟩ := h
      exact sink_take0 hi hs hn hb.1.1 hb.1.2 (hQ _ _) hy hS (ih m _ _ _ hm' hb.2 hS h)
    | false =>
      simp only [ordB, Bool.and_eq_true, decide_eq_true_eq] at hb
      exact sink_one hb.1 (wpOp_mono (fun a' w' h' => ⟨Or.inr h'.1, ih m _ a' w' hm' hb.2 h'.1 h'.2⟩) h)

/-- the same, shut: nothing unfolds it -/
structure OrdW (P : Program) (ops : Array Oper) (Q : Exit → Act → World → Prop) (S : World → Prop) (ord : List (Bool × Nat)) (a : Act) (w : World) : Prop where
  out : wpOrd P ops Q S ord a w

theorem wp_region_ord {id : Nat} {a : Act} {w : World} (ord : List (Bool × Nat)) (S : World → Prop) (hm : P.follows .mixedOrders = true) (hs : Region.noSelect ops = true) (hl : ord.length ≤ ops.size) (hb : ordB .any ops ord (Array.replicate ops.size false) = true)
    (hQ : ∀ d v c a w, Q (.panic c) (Act.put a d v) w → Q (.panic c) a w) (hS : S w.drew) (h : OrdW P ops Q S ord a w.drew) : (Code.region id ops true).wp P Q a w :=
  wp_region_sink (S := S) (n := ops.size) hm (sink_ord hs (Nat.le_refl _) hQ ord _ _ _ _ hl hb hS h.out)

theorem ord_q {i : Nat} {oi : Oper} {d : Option Tmp} {v : Value} {r : List (Bool × Nat)} {a : Act} {w : World} (hi : ops[i]? = some oi) (hd : oi.dst = d) (hy : YieldsIf P ops S oi v a) (h : OrdW P ops Q S r (a.put d v) w) : OrdW P ops Q S ((true, i) :: r) a w := by
  subst hd
  exact ⟨oi, v, hi, hy, h.out⟩
theorem ord_l {i : Nat} {r : List (Bool × Nat)} {a : Act} {w : World} (h : wpOp P ops Q i (fun a' w' => S w' ∧ OrdW P ops Q S r a' w') a w) : OrdW P ops Q S ((false, i) :: r) a w :=
  ⟨wpOp_mono (fun _ _ h' => ⟨h'.1, h'.2.out⟩) h⟩
theorem ord_nil {a : Act} {w : World} (h : Q .normal a w) : OrdW P ops Q S [] a w := ⟨h⟩

/-! the same, where the last operation, n, may turn what the others read -/
def wpOrdN (P : Program) (ops : Array Oper) (Q : Exit → Act → World → Prop) (S : World → Prop) (n : Nat) : List (Bool × Nat) → Act → World → Prop
  | [], a, w => Q .normal a w
  | (true, i) :: r, a, w => ∃ oi v, ops[i]? = some oi ∧ YieldsIf P ops S oi v a ∧ wpOrdN P ops Q S n r (a.put oi.dst v) w
  | (false, i) :: r, a, w => wpOp P ops Q i (fun a' w' => (S w' ∧ wpOrdN P ops Q S n r a' w') ∨ (i = n ∧ r = [] ∧ Q .normal a' w')) a w

/-- what has come has come behind what it waits for -/
def Closed (md : Region.Mode) (ops : Array Oper) (ls : Array Bool) : Prop :=
  ∀ j oj, ops[j]? = some oj → ls.getD j false = true → ∀ e ∈ oj.after, Region.binds md e = true → ls.getD e.on false = true
theorem getD_set_mono {ls : Array Bool} {i j : Nat} (h : ls.getD j false = true) : (ls.setIfInBounds i true).getD j false = true := by
  simp only [Array.getD_eq_getD_getElem?, Array.getElem?_setIfInBounds] at h ⊢
  split
  · split
    · rfl
    · rename_i e1 e2
      subst e1
      rw [Array.getElem?_eq_none (by omega)] at h
      exact h
  · exact h
theorem Closed.next {ls : Array Bool} {i : Nat} (h : Closed md ops ls) (hi : i ∈ Region.ready md ops ls) : Closed md ops (ls.setIfInBounds i true) := by
  intro j oj hj hc e he hb
  by_cases hji : i = j
  · subst hji
    obtain ⟨_, o, ho, hall⟩ := mem_ready.1 hi
    rw [hj] at ho
    cases ho
    exact getD_set_mono (hall e he hb)
  · have : ls.getD j false = true := by
      simp only [Array.getD_eq_getD_getElem?, Array.getElem?_setIfInBounds_ne hji] at hc ⊢
      exact hc
    exact getD_set_mono (h j oj hj this e he hb)
theorem closed_none (k : Nat) : Closed md ops (Array.replicate k false) := by
  intro j oj _ hc
  simp only [Array.getD_eq_getD_getElem?, Array.getElem?_replicate] at hc
  split at hc <;> cases hc
/-- does k wait for i, perhaps through others -/
def reachB (md : Region.Mode) (ops : Array Oper) : Nat → Nat → Nat → Bool
  | 0, _, _ => false
  | f + 1, k, i => match ops[k]? with
    | none => false
    | some o => o.after.toList.any fun e => Region.binds md e && (e.on == i || reachB md ops f e.on i)
theorem reach_dep {f k i : Nat} (h : reachB md ops (f + 1) k i = true) : ∃ o, ops[k]? = some o ∧ ∃ e ∈ o.after, Region.binds md e = true ∧ (e.on = i ∨ reachB md ops f e.on i = true) := by
  unfold reachB at h
  split at h
  · cases h
  · rename_i o ho
    rw [List.any_eq_true] at h
    obtain ⟨e, he, h⟩ := h
    simp only [Bool.and_eq_true, Bool.or_eq_true, beq_iff_eq] at h
    exact ⟨o, ho, e, by simpa using he, h.1, h.2⟩
theorem reach_came {ls : Array Bool} (hc : Closed md ops ls) {i : Nat} : ∀ f k, reachB md ops f k i = true → ls.getD k false = true → ls.getD i false = true := by
  intro f
  induction f with
  | zero => intro k h; cases h
  | succ f ih =>
    intro k h hk
    obtain ⟨o, ho, e, he, hb, h⟩ := reach_dep h
    have := hc k o ho hk e he hb
    rcases h with h | h
    · rw [← h]; exact this
    · exact ih _ h this
theorem reach_not {ls : Array Bool} (hc : Closed md ops ls) {i k f : Nat} (h : reachB md ops f k i = true) (hi : i ∈ Region.ready md ops ls) : ¬ k ∈ Region.ready md ops ls := by
  intro hk
  have h0 := (mem_ready.1 hi).1
  obtain ⟨_, o, ho, hall⟩ := mem_ready.1 hk
  have key : ls.getD i false = true := by
    cases f with
    | zero => cases h
    | succ f =>
      obtain ⟨o', ho', e, he, hb, h⟩ := reach_dep h
      rw [ho] at ho'
      cases ho'
      have := hall e he hb
      rcases h with h | h
      · rw [← h]; exact this
      · exact reach_came hc _ _ h this
  rw [getD_both h0] at key
  cases key

/-- may i be taken first: what hasn't come, and doesn't wait for it (perhaps through others), is apart from it -/
def freeT (md : Region.Mode) (ops : Array Oper) (ls : Array Bool) (i : Nat) : Bool :=
  match ops[i]? with
  | none => false
  | some oi => (List.range ops.size).all fun j => j == i || ls.getD j true || reachB md ops ops.size j i || match ops[j]? with
      | some oj => oi.apart ops oj
      | none => true
theorem freeT_spec {i : Nat} {oi : Oper} {ls : Array Bool} (hi : ops[i]? = some oi) (h : freeT md ops ls i = true) (j : Nat) (oj : Oper) (hj : ops[j]? = some oj) (hne : j ≠ i) (hun : ls.getD j true = false) (hno : reachB md ops ops.size j i = false) : oi.apart ops oj = true := by
  unfold freeT at h
  rw [hi] at h
  simp only [List.all_eq_true, List.mem_range] at h
  have := h j (Array.getElem?_eq_some_iff.1 hj).1
  rw [hj, hun, hno] at this
  simpa [hne] using this

theorem sink_takeT {i : Nat} {oi : Oper} {v : Value} {m : Nat} {ls : Array Bool} {a : Act} {w : World} (hi : ops[i]? = some oi) (hs : Region.noSelect ops = true) (hw : reachB md ops ops.size n i = true)
    (hf : freeT md ops ls i = true) (hr : (Region.ready md ops ls).contains i = true) (hcl : Closed md ops ls) (hQ : ∀ c a w, Q (.panic c) (a.put oi.dst v) w → Q (.panic c) a w)
    (hy : YieldsIf P ops S oi v a) (hS : S w) (h : wpSink P md ops Q S n m (ls.setIfInBounds i true) (a.put oi.dst v) w) : wpSink P md ops Q S n (m + 1) ls a w := by
  have hsel := Region.noSelect_spec hs
  have hc := freeT_spec hi hf
  replace hr : i ∈ Region.ready md ops ls := by simpa using hr
  clear hf
  induction m generalizing ls a w with
  | zero =>
    refine ⟨fun h0 => absurd hr (by rw [h0]; simp), fun j hj => ?_⟩
    by_cases hji : j = i
    · rw [hji]
      exact hy.wpOp hi hS ⟨Or.inr hS, h⟩
    · have h0 := ready_mono hj hji
      rw [h.1] at h0
      cases h0
  | succ m ih =>
    refine ⟨fun h0 => absurd hr (by rw [h0]; simp), fun j hj => ?_⟩
    by_cases hji : j = i
    · rw [hji]
      exact hy.wpOp hi hS ⟨Or.inr hS, h⟩
    · have hjn : j ≠ n := fun e => reach_not hcl hw hr (e ▸ hj)
      have h1 := h.2 j (ready_mono hj hji)
      obtain ⟨hjun, oj, hoj, hall⟩ := mem_ready.1 hj
      have hno : reachB md ops ops.size j i = false := by
        cases e : reachB md ops ops.size j i with
        | false => rfl
        | true => exact absurd hj (reach_not hcl e hr)
      have h3 := wpOp_putIf hoj (hc j oj hoj hji hjun hno) (fun cs b => hsel i oi cs b hi) (fun cs b => hsel j oj cs b hoj) hQ hy h1
      refine wpOp_mono (fun a' w' h4 => ?_) h3
      have hS' : S w' := h4.2.1.resolve_left hjn
      refine ⟨Or.inr hS', ih (hcl.next hj) h4.1 hS' ?_ (fun k ok hk hki hun hno => ?_) (ready_mono hr (Ne.symm hji))⟩
      · have h5 := h4.2.2
        rw [Array.setIfInBounds_comm _ _ (Ne.symm hji)] at h5
        exact h5
      · by_cases e : j = k
        · subst e; exact hc j ok hk hki hjun hno
        · exact hc k ok hk hki (by rw [getD_set_ne true e] at hun; exact hun) hno

def ordBN (md : Region.Mode) (ops : Array Oper) (n : Nat) : List (Bool × Nat) → Array Bool → Bool
  | [], ls => (Region.ready md ops ls).isEmpty
  | (true, i) :: r, ls => freeT md ops ls i && (Region.ready md ops ls).contains i && reachB md ops ops.size n i && ordBN md ops n r (ls.setIfInBounds i true)
  | (false, i) :: r, ls => decide (Region.ready md ops ls = [i]) && ordBN md ops n r (ls.setIfInBounds i true)

theorem sink_ordN (hs : Region.noSelect ops = true) (hQ : ∀ d v c a w, Q (.panic c) (Act.put a d v) w → Q (.panic c) a w) :
    ∀ (ord : List (Bool × Nat)) (m : Nat) (ls : Array Bool) (a : Act) (w : World), ord.length ≤ m → Closed md ops ls → ordBN md ops n ord ls = true → S w → wpOrdN P ops Q S n ord a w → wpSink P md ops Q S n m ls a w := by
  intro ord
  induction ord with
  | nil =>
    intro m ls a w _ _ hb _ h
    exact sink_done (by simpa [ordBN] using hb) h
  | cons x r ih =>
    intro m ls a w hm hcl hb hS h
    obtain ⟨m, rfl⟩ : ∃ k, m = k + 1 := ⟨m - 1, by simp at hm; omega⟩
    have hm' : r.length ≤ m := by simpa using hm
    obtain ⟨t, i⟩ := x
    cases t with
    | true =>
      simp only [ordBN, Bool.and_eq_true] at hb
      obtain ⟨oi, v, hi, hy, h⟩ := h
      exact sink_takeT hi hs hb.1.2 hb.1.1.1 hb.1.1.2 hcl (hQ _ _) hy hS (ih m _ _ _ hm' (hcl.next (by simpa using hb.1.1.2)) hb.2 hS h)
    | false =>
      simp only [ordBN, Bool.and_eq_true, decide_eq_true_eq] at hb
      have hcl' := hcl.next (i := i) (by rw [hb.1]; simp)
      refine sink_one hb.1 (wpOp_mono (fun a' w' h' => ?_) h)
      rcases h' with h' | ⟨e, er, q⟩
      · exact ⟨Or.inr h'.1, ih m _ _ _ hm' hcl' hb.2 h'.1 h'.2⟩
      · subst er
        exact ⟨Or.inl e, sink_done (by simpa [ordBN] using hb.2) q⟩

/-- shut: nothing unfolds it -/
structure OrdN (P : Program) (ops : Array Oper) (Q : Exit → Act → World → Prop) (S : World → Prop) (n : Nat) (ord : List (Bool × Nat)) (a : Act) (w : World) : Prop where
  out : wpOrdN P ops Q S n ord a w

theorem wp_region_ordN {id : Nat} {a : Act} {w : World} (n : Nat) (ord : List (Bool × Nat)) (S : World → Prop) (hm : P.follows .mixedOrders = true) (hs : Region.noSelect ops = true) (hl : ord.length ≤ ops.size) (hb : ordBN .any ops n ord (Array.replicate ops.size false) = true)
    (hQ : ∀ d v c a w, Q (.panic c) (Act.put a d v) w → Q (.panic c) a w) (hS : S w.drew) (h : OrdN P ops Q S n ord a w.drew) : (Code.region id ops true).wp P Q a w :=
  wp_region_sink (S := S) (n := n) hm (sink_ordN hs hQ ord _ _ _ _ hl (closed_none _) hb hS h.out)
theorem ordn_q {i : Nat} {oi : Oper} {d : Option Tmp} {v : Value} {r : List (Bool × Nat)} {a : Act} {w : World} (hi : ops[i]? = some oi) (hd : oi.dst = d) (hy : YieldsIf P ops S oi v a) (h : OrdN P ops Q S n r (a.put d v) w) : OrdN P ops Q S n ((true, i) :: r) a w := by
  subst hd
  exact ⟨oi, v, hi, hy, h.out⟩
theorem ordn_l {i : Nat} {r : List (Bool × Nat)} {a : Act} {w : World} (h : wpOp P ops Q i (fun a' w' => S w' ∧ OrdN P ops Q S n r a' w') a w) : OrdN P ops Q S n ((false, i) :: r) a w :=
  ⟨wpOp_mono (fun _ _ h' => Or.inl ⟨h'.1, h'.2.out⟩) h⟩
theorem ordn_last {a : Act} {w : World} (h : wpOp P ops Q n (fun a' w' => Q .normal a' w') a w) : OrdN P ops Q S n ((false, n) :: []) a w :=
  ⟨wpOp_mono (fun _ _ h' => Or.inr ⟨rfl, rfl, h'⟩) h⟩
end
end Go.Proofs.Ytolklphenllhpaa
