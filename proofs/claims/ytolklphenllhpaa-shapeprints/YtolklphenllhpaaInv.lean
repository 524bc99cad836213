/-
  A region that draws its order, by what holds whatever has come so far: one proof an operation, not one an order. No program.
-/
import Derived.Test.YtolklphenllhpaaSink
namespace Go.Proofs.Ytolklphenllhpaa
open Go

section
variable {P : Program} {ops : Array Oper} {Q : Exit → Act → World → Prop} {md : Region.Mode} {S : World → Prop} {n : Nat}

/-- how many haven't come -/
def unCome (ls : Array Bool) : Nat := ls.toList.countP (fun b => !b)
theorem unCome_pos {ls : Array Bool} {i : Nat} (h : ls.getD i true = false) : 0 < unCome ls ∧ ∃ hi : i < ls.size, ls[i] = false := by
  have hi : i < ls.size := by
    rcases Nat.lt_or_ge i ls.size with h' | h'
    · exact h'
    · simp [Array.getElem?_eq_none h'] at h
  have hv : ls[i] = false := by simpa [hi] using h
  refine ⟨?_, hi, hv⟩
  rw [unCome, List.countP_pos_iff]
  exact ⟨ls[i], by simp, by simp [hv]⟩
theorem unCome_set {ls : Array Bool} {i : Nat} (h : ls.getD i true = false) : unCome (ls.setIfInBounds i true) + 1 = unCome ls := by
  obtain ⟨hp, hi, hv⟩ := unCome_pos h
  have hl : i < ls.toList.length := by simpa using hi
  have hv' : ls.toList[i] = false := by simpa using hv
  rw [unCome, Array.toList_setIfInBounds, List.countP_set hl, hv']
  rw [unCome] at hp
  simp only [Bool.not_false, Bool.not_true, if_true, Bool.false_eq_true, if_false]
  show _ = List.countP (fun b => !b) ls.toList
  omega

/-- each waits for such alone that stand ahead of it -/
def backB (ops : Array Oper) : Bool := (List.range ops.size).all fun i => match ops[i]? with | some o => o.after.all fun e => decide (e.on < i) | none => true

theorem ready_un {i : Nat} {ls : Array Bool} (h : i ∈ Region.ready md ops ls) : ls.getD i true = false := (mem_ready.1 h).1
theorem ready_lt {i : Nat} {ls : Array Bool} (h : i ∈ Region.ready md ops ls) : i < ops.size := by
  obtain ⟨_, o, ho, _⟩ := mem_ready.1 h
  exact (Array.getElem?_eq_some_iff.1 ho).1
theorem ready_dep {i j : Nat} {ls : Array Bool} (hw : Region.waitsFor md ops i j = true) (h : i ∈ Region.ready md ops ls) : ls.getD j false = true := by
  obtain ⟨oj, ho, e, he, hb, hon⟩ := Region.waitsFor_spec hw
  obtain ⟨_, oj', ho', hall⟩ := mem_ready.1 h
  rw [ho] at ho'
  cases ho'
  rw [← hon]
  exact hall e he hb
/-- if none may come all have come -/
theorem all_come {ls : Array Bool} (hb : backB ops = true) (hsz : ls.size = ops.size) (h : Region.ready md ops ls = []) : ∀ i, i < ops.size → ls.getD i false = true := by
  intro i
  induction i using Nat.strongRecOn with
  | _ i ih =>
    intro hi
    have hil : i < ls.size := by omega
    rcases hv : ls[i] with _ | _
    · exfalso
      have hm : i ∈ Region.ready md ops ls := by
        rw [mem_ready]
        refine ⟨by simp [hil, hv], ops[i], by simp [hi], ?_⟩
        intro e he _
        rw [backB, List.all_eq_true] at hb
        have := hb i (by simp [hi])
        simp only [hi, Array.getElem?_eq_getElem, Array.all_eq_true_iff_forall_mem] at this
        have hlt := of_decide_eq_true (this e he)
        exact ih e.on hlt (by omega)
      rw [h] at hm
      cases hm
    · simp [hil, hv]

theorem sink_inv {I : Array Bool → Act → World → Prop} (hb : backB ops = true) (hz : ∀ ls a w, I ls a w → ls.size = ops.size)
    (hI : ∀ i, i < ops.size → ∀ ls a w, I ls a w → i ∈ Region.ready md ops ls → wpOp P ops Q i (fun a' w' => (i = n ∨ S w') ∧ I (ls.setIfInBounds i true) a' w') a w)
    (he : ∀ ls a w, I ls a w → (∀ i, i < ops.size → ls.getD i false = true) → Q .normal a w) :
    ∀ m ls a w, unCome ls ≤ m → I ls a w → wpSink P md ops Q S n m ls a w := by
  intro m
  induction m with
  | zero =>
    intro ls a w hm h
    have h0 : Region.ready md ops ls = [] := by
      rcases hr : Region.ready md ops ls with _ | ⟨i, rest⟩
      · rfl
      · have hi : i ∈ Region.ready md ops ls := by rw [hr]; simp
        have := (unCome_pos (ready_un hi)).1
        omega
    exact ⟨h0, he ls a w h (all_come hb (hz _ _ _ h) h0)⟩
  | succ m ih =>
    intro ls a w hm h
    refine ⟨fun h0 => he ls a w h (all_come hb (hz _ _ _ h) h0), fun i hi => ?_⟩
    have hs := unCome_set (ready_un hi)
    exact wpOp_mono (fun a' w' h' => ⟨h'.1, ih _ a' w' (by omega) h'.2⟩) (hI i (ready_lt hi) ls a w h hi)

/-- take number i first, where S holds behind every operation -/
theorem sink_take0 {i : Nat} {oi : Oper} {v : Value} {m : Nat} {ls : Array Bool} {a : Act} {w : World} (hi : ops[i]? = some oi) (hs : Region.noSelect ops = true) (hw : ops.size ≤ n)
    (hf : Region.free md ops ls i = true) (hr : (Region.ready md ops ls).contains i = true) (hQ : ∀ c a w, Q (.panic c) (a.put oi.dst v) w → Q (.panic c) a w)
    (hy : YieldsIf P ops S oi v a) (hS : S w) (h : wpSink P md ops Q S n m (ls.setIfInBounds i true) (a.put oi.dst v) w) : wpSink P md ops Q S n (m + 1) ls a w := by
  have hsel := Region.noSelect_spec hs
  have hc := Region.free_spec hi hf
  replace hr : i ∈ Region.ready md ops ls := by simpa using hr
  clear hf
  induction m generalizing ls a w with
  | zero =>
    refine ⟨fun h0 => absurd hr (by rw [h0]; simp), fun j hj => ?_⟩
    by_cases hji : j = i
    · rw [hji]
      exact hy.wpOp hi hS ⟨Or.inr hS, h⟩
    · have h0 := ready_mono hj hji
      rw [h.1] at h0
      cases h0
  | succ m ih =>
    refine ⟨fun h0 => absurd hr (by rw [h0]; simp), fun j hj => ?_⟩
    by_cases hji : j = i
    · rw [hji]
      exact hy.wpOp hi hS ⟨Or.inr hS, h⟩
    · have hjn : j ≠ n := fun e => by have := ready_lt hj; omega
      have h1 := h.2 j (ready_mono hj hji)
      obtain ⟨hjun, oj, hoj, hall⟩ := mem_ready.1 hj
      have hno : ∀ e ∈ oj.after, Region.binds md e = true → e.on ≠ i := by
        intro e he hb hon
        have h2 := hall e he hb
        rw [hon, getD_both (mem_ready.1 hr).1] at h2
        cases h2
      have h3 := wpOp_putIf hoj (hc j oj hoj hji hjun hno) (fun cs b => hsel i oi cs b hi) (fun cs b => hsel j oj cs b hoj) hQ hy h1
      refine wpOp_mono (fun a' w' h4 => ?_) h3
      have hS' : S w' := h4.2.1.resolve_left hjn
      refine ⟨Or.inr hS', ih h4.1 hS' ?_ (fun k ok hk hki hun hno => ?_) (ready_mono hr (Ne.symm hji))⟩
      · have h5 := h4.2.2
        rw [Array.setIfInBounds_comm _ _ (Ne.symm hji)] at h5
        exact h5
      · by_cases e : j = k
        · subst e; exact hc j ok hk hki hjun hno
        · exact hc k ok hk hki (by rw [getD_set_ne true e] at hun; exact hun) hno
/-- the same, the place where it lays its value written out -/
theorem sink_take1 {i : Nat} {oi : Oper} {d : Option Tmp} {v : Value} {m : Nat} {ls : Array Bool} {a : Act} {w : World} (hi : ops[i]? = some oi) (hd : oi.dst = d) (hs : Region.noSelect ops = true) (hw : ops.size ≤ n)
    (hf : Region.free md ops ls i = true) (hr : (Region.ready md ops ls).contains i = true) (hQ : ∀ c a w, Q (.panic c) (a.put d v) w → Q (.panic c) a w)
    (hy : YieldsIf P ops S oi v a) (hS : S w) (h : wpSink P md ops Q S n m (ls.setIfInBounds i true) (a.put d v) w) : wpSink P md ops Q S n (m + 1) ls a w := by
  subst hd
  exact sink_take0 hi hs hw hf hr hQ hy hS h
end
end Go.Proofs.Ytolklphenllhpaa
