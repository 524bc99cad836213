/-
  A region that draws its order and whose last operation, n, all others are ahead of: what S says is asked behind every operation but that one. No program.
-/
import Derived.OrdersHeld
import Derived.StillTail
namespace Go.Proofs.Ytolklphenllhpaa
open Go

section
variable {P : Program} {ops : Array Oper} {Q : Exit → Act → World → Prop} {md : Region.Mode} {S : World → Prop} {n : Nat}

/-- whatever order comes, S holds behind each operation but number n -/
def wpSink (P : Program) (md : Region.Mode) (ops : Array Oper) (Q : Exit → Act → World → Prop) (S : World → Prop) (n : Nat) : Nat → Array Bool → Act → World → Prop
  | 0, ls, a, w => Region.ready md ops ls = [] ∧ Q .normal a w
  | m + 1, ls, a, w => (Region.ready md ops ls = [] → Q .normal a w) ∧
      ∀ i ∈ Region.ready md ops ls, wpOp P ops Q i (fun a' w' => (i = n ∨ S w') ∧ wpSink P md ops Q S n m (ls.setIfInBounds i true) a' w') a w

theorem wpAny_of_sink : ∀ (m : Nat) (ls : Array Bool) (a : Act) (w : World), wpSink P md ops Q S n m ls a w → wpAny P md ops Q m ls a w := by
  intro m
  induction m with
  | zero => exact fun _ _ _ h => h
  | succ m ih => exact fun ls a w h => ⟨h.1, fun i hi => wpOp_mono (fun a' w' h' => ih _ a' w' h'.2) (h.2 i hi)⟩

theorem wp_region_sink {id : Nat} {a : Act} {w : World} (hm : P.follows .mixedOrders = true)
    (h : wpSink P .any ops Q S n ops.size (Array.replicate ops.size false) a w.drew) : (Code.region id ops true).wp P Q a w :=
  wp_region_any hm (wpAny_of_sink _ _ _ _ h)

/-- what waits for i isn't ready while i hasn't come -/
theorem not_ready {i j : Nat} {ls : Array Bool} (hw : Region.waitsFor md ops j i = true) (hi : i ∈ Region.ready md ops ls) : ¬ j ∈ Region.ready md ops ls := by
  intro hj
  obtain ⟨oj, ho, e, he, hb, hon⟩ := Region.waitsFor_spec hw
  obtain ⟨_, oj', ho', hall⟩ := mem_ready.1 hj
  rw [ho] at ho'
  cases ho'
  have h1 := hall e he hb
  have h0 := (mem_ready.1 hi).1
  rw [hon] at h1
  rw [getD_both h0] at h1
  cases h1

/-- of what hasn't come yet, all that don't wait for i are apart from it -/
def Clear (md : Region.Mode) (ops : Array Oper) (i : Nat) (oi : Oper) (ls : Array Bool) : Prop :=
  ∀ j oj, ops[j]? = some oj → j ≠ i → ls.getD j true = false → (∀ e ∈ oj.after, Region.binds md e = true → e.on ≠ i) → oi.apart ops oj = true
theorem Clear.next {i j : Nat} {oi : Oper} {ls : Array Bool} (h : Clear md ops i oi ls) (hj : ls.getD j true = false) : Clear md ops i oi (ls.setIfInBounds j true) := by
  intro k ok hk hki hun hno
  by_cases e : j = k
  · subst e; exact h j ok hk hki hj hno
  · exact h k ok hk hki (by rw [getD_set_ne true e] at hun; exact hun) hno

theorem sink_first {i : Nat} {oi : Oper} {v : Value} (hi : ops[i]? = some oi) (hs : Region.noSelect ops = true) (hw : Region.waitsFor md ops n i = true)
    (hQ : ∀ c a w, Q (.panic c) (a.put oi.dst v) w → Q (.panic c) a w) :
    ∀ (m : Nat) (ls : Array Bool) (a : Act) (w : World), Clear md ops i oi ls → i ∈ Region.ready md ops ls → YieldsIf P ops S oi v a → S w →
      wpSink P md ops Q S n m (ls.setIfInBounds i true) (a.put oi.dst v) w → wpSink P md ops Q S n (m + 1) ls a w := by
  have hsel := Region.noSelect_spec hs
  intro m
  induction m with
  | zero =>
    intro ls a w _ hr hy hS H
    refine ⟨fun h => absurd hr (by rw [h]; simp), fun j hj => ?_⟩
    by_cases hji : j = i
    · rw [hji]
      exact hy.wpOp hi hS ⟨Or.inr hS, H⟩
    · have h0 := ready_mono hj hji
      rw [H.1] at h0
      cases h0
  | succ m ih =>
    intro ls a w hc hr hy hS H
    refine ⟨fun h => absurd hr (by rw [h]; simp), fun j hj => ?_⟩
    by_cases hji : j = i
    · rw [hji]
      exact hy.wpOp hi hS ⟨Or.inr hS, H⟩
    · have hjn : j ≠ n := fun e => not_ready hw hr (e ▸ hj)
      have h1 := H.2 j (ready_mono hj hji)
      obtain ⟨hjun, oj, hoj, hall⟩ := mem_ready.1 hj
      have hno : ∀ e ∈ oj.after, Region.binds md e = true → e.on ≠ i := by
        intro e he hb hon
        have h2 := hall e he hb
        rw [hon, getD_both (mem_ready.1 hr).1] at h2
        cases h2
      have h3 := wpOp_putIf hoj (hc j oj hoj hji hjun hno) (fun cs b => hsel i oi cs b hi) (fun cs b => hsel j oj cs b hoj) hQ hy h1
      refine wpOp_mono (fun a' w' h4 => ?_) h3
      have hS' : S w' := h4.2.1.resolve_left hjn
      refine ⟨Or.inr hS', ih _ a' w' (hc.next hjun) (ready_mono hr (Ne.symm hji)) h4.1 hS' ?_⟩
      have h5 := h4.2.2
      rw [Array.setIfInBounds_comm _ _ (Ne.symm hji)] at h5
      exact h5

/-- take number i first -/
theorem sink_take {i : Nat} {oi : Oper} {v : Value} {m : Nat} {ls : Array Bool} {a : Act} {w : World} (hi : ops[i]? = some oi) (hs : Region.noSelect ops = true) (hw : Region.waitsFor md ops n i = true)
    (hf : Region.free md ops ls i = true) (hr : (Region.ready md ops ls).contains i = true) (hQ : ∀ c a w, Q (.panic c) (a.put oi.dst v) w → Q (.panic c) a w)
    (hy : YieldsIf P ops S oi v a) (hS : S w) (h : wpSink P md ops Q S n m (ls.setIfInBounds i true) (a.put oi.dst v) w) : wpSink P md ops Q S n (m + 1) ls a w :=
  sink_first hi hs hw hQ m ls a w (Region.free_spec hi hf) (by simpa using hr) hy hS h
/-- one alone may come -/
theorem sink_one {i : Nat} {m : Nat} {ls : Array Bool} {a : Act} {w : World} (hr : Region.ready md ops ls = [i])
    (h : wpOp P ops Q i (fun a' w' => (i = n ∨ S w') ∧ wpSink P md ops Q S n m (ls.setIfInBounds i true) a' w') a w) : wpSink P md ops Q S n (m + 1) ls a w :=
  ⟨fun h0 => absurd (hr ▸ h0) (by simp), fun j hj => by rw [hr, List.mem_singleton] at hj; rw [hj]; exact h⟩
/-- all have come -/
theorem sink_done {m : Nat} {ls : Array Bool} {a : Act} {w : World} (hr : Region.ready md ops ls = []) (h : Q .normal a w) : wpSink P md ops Q S n m ls a w := by
  cases m with
  | zero => exact ⟨hr, h⟩
  | succ m => exact ⟨fun _ => h, fun i hi => by rw [hr] at hi; cases hi⟩
end
end Go.Proofs.Ytolklphenllhpaa
