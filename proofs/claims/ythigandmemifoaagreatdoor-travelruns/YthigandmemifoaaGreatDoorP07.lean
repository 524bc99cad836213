/-
  Put together: Sink, Inv, Rgt.
-/
import Derived.OrdersHeld
import Derived.StillTail
import Derived.Test.YthigandmemifoaaGreatDoorP05
namespace Go.Proofs.YthigandmemifoaaGreatDoor
open Go

section
variable {P : Program} {ops : Array Oper} {Q : Exit → Act → World → Prop} {md : Region.Mode} {S : World → Prop} {n : Nat}

/-- whatever order comes, S holds behind each operation but number n -/
def wpSink (P : Program) (md : Region.Mode) (ops : Array Oper) (Q : Exit → Act → World → Prop) (S : World → Prop) (n : Nat) : Nat → Array Bool → Act → World → Prop
  | 0, ls, a, w => Region.ready md ops ls = [] ∧ Q .normal a w
  | m + 1, ls, a, w => (Region.ready md ops ls = [] → Q .normal a w) ∧
      ∀ i ∈ Region.ready md ops ls, wpOp P ops Q i (fun a' w' => (i = n ∨ S w') ∧ wpSink P md ops Q S n m (ls.setIfInBounds i true) a' w') a w

theorem wpAny_of_sink : ∀ (m : Nat) (ls : Array Bool) (a : Act) (w : World), wpSink P md ops Q S n m ls a w → wpAny P md ops Q m ls a w := by
  intro m
  induction m with
  | zero => exact fun _ _ _ h => h
  | succ m ih => exact fun ls a w h => ⟨h.1, fun i hi => wpOp_mono (fun a' w' h' => ih _ a' w' h'.2) (h.2 i hi)⟩

theorem wp_region_sink {id : Nat} {a : Act} {w : World} (hm : P.follows .mixedOrders = true)
    (h : wpSink P .any ops Q S n ops.size (Array.replicate ops.size false) a w.drew) : (Code.region id ops true).wp P Q a w :=
  wp_region_any hm (wpAny_of_sink _ _ _ _ h)

/-- what waits for i isn't ready while i hasn't come -/
theorem not_ready {i j : Nat} {ls : Array Bool} (hw : Region.waitsFor md ops j i = true) (hi : i ∈ Region.ready md ops ls) : ¬ j ∈ Region.ready md ops ls := by
  intro hj
  obtain ⟨oj, ho, e, he, hb, hon⟩ := Region.waitsFor_spec hw
  obtain ⟨_, oj', ho', hall⟩ := mem_ready.1 hj
  rw [ho] at ho'
  cases ho'
  have h1 := hall e he hb
  have h0 := (mem_ready.1 hi).1
  rw [hon] at h1
  rw [getD_both h0] at h1
  cases h1

/-- of what hasn't come yet, all that don't wait for i are apart from it -/
def Clear (md : Region.Mode) (ops : Array Oper) (i : Nat) (oi : Oper) (ls : Array Bool) : Prop :=
  ∀ j oj, ops[j]? = some oj → j ≠ i → ls.getD j true = false → (∀ e ∈ oj.after, Region.binds md e = true → e.on ≠ i) → oi.apart ops oj = true
theorem Clear.next {i j : Nat} {oi : Oper} {ls : Array Bool} (h : Clear md ops i oi ls) (hj : ls.getD j true = false) : Clear md ops i oi (ls.setIfInBounds j true) := by
  intro k ok hk hki hun hno
  by_cases e : j = k
  · subst e; exact h j ok hk hki hj hno
  · exact h k ok hk hki (by rw [getD_set_ne true e] at hun; exact hun) hno

theorem sink_first {i : Nat} {oi : Oper} {v : Value} (hi : ops[i]? = some oi) (hs : Region.noSelect ops = true) (hw : Region.waitsFor md ops n i = true)
    (hQ : ∀ c a w, Q (.panic c) (a.put oi.dst v) w → Q (.panic c) a w) :
    ∀ (m : Nat) (ls : Array Bool) (a : Act) (w : World), Clear md ops i oi ls → i ∈ Region.ready md ops ls → YieldsIf P ops S oi v a → S w →
      wpSink P md ops Q S n m (ls.setIfInBounds i true) (a.put oi.dst v) w → wpSink P md ops Q S n (m + 1) ls a w := by
  have hsel := Region.noSelect_spec hs
  intro m
  induction m with
  | zero =>
    intro ls a w _ hr hy hS H
    refine ⟨fun h => absurd hr (by rw [h]; simp), fun j hj => ?_⟩
    by_cases hji : j = i
    · rw [hji]
      exact hy.wpOp hi hS ⟨Or.inr hS, H⟩
    · have h0 := ready_mono hj hji
      rw [H.1] at h0
      cases h0
  | succ m ih =>
    intro ls a w hc hr hy hS H
    refine ⟨fun h => absurd hr (by rw [h]; simp), fun j hj => ?_⟩
    by_cases hji : j = i
    · rw [hji]
      exact hy.wpOp hi hS ⟨Or.inr hS, H⟩
    · have hjn : j ≠ n := fun e => not_ready hw hr (e ▸ hj)
      have h1 := H.2 j (ready_mono hj hji)
      obtain ⟨hjun, oj, hoj, hall⟩ := mem_ready.1 hj
      have hno : ∀ e ∈ oj.after, Region.binds md e = true → e.on ≠ i := by
        intro e he hb hon
        have h2 := hall e he hb
        rw [hon, getD_both (mem_ready.1 hr).1] at h2
        cases h2
      have h3 := wpOp_putIf hoj (hc j oj hoj hji hjun hno) (fun cs b => hsel i oi cs b hi) (fun cs b => hsel j oj cs b hoj) hQ hy h1
      refine wpOp_mono (fun a' w' h4 => ?_) h3
      have hS' : S w' := h4.2.1.resolve_left hjn
      refine ⟨Or.inr hS', ih _ a' w' (hc.next hjun) (ready_mono hr (Ne.symm hji)) h4.1 hS' ?_⟩
      have h5 := h4.2.2
      rw [Array.setIfInBounds_comm _ _ (Ne.symm hji)] at h5
      exact h5

/-- take number i first -/
theorem sink_take {i : Nat} {oi : Oper} {v : Value} {m : Nat} {ls : Array Bool} {a : Act} {w : World} (hi : ops[i]? = some oi) (hs : Region.noSelect ops = true) (hw : Region.waitsFor md ops n i = true)
    (hf : Region.free md ops ls i = true) (hr : (Region.ready md ops ls).contains i = true) (hQ : ∀ c a w, Q (.panic c) (a.put oi.dst v) w → Q (.panic c) a w)
    (hy : YieldsIf P ops S oi v a) (hS : S w) (h : wpSink P md ops Q S n m (ls.setIfInBounds i true) (a.put oi.dst v) w) : wpSink P md ops Q S n (m + 1) ls a w :=
  sink_first hi hs hw hQ m ls a w (Region.free_spec hi hf) (by simpa using hr) hy hS h
/-- one alone may come -/
theorem sink_one {i : Nat} {m : Nat} {ls : Array Bool} {a : Act} {w : World} (hr : Region.ready md ops ls = [i])
    (h : wpOp P ops Q i (fun a' w' => (i = n ∨ S w') ∧ wpSink P md ops Q S n m (ls.setIfInBounds i true) a' w') a w) : wpSink P md ops Q S n (m + 1) ls a w :=
  ⟨fun h0 => absurd (hr ▸ h0) (by simp), fun j hj => by rw [hr, List.mem_singleton] at hj; rw [hj]; exact h⟩
/-- all have come -/
theorem sink_done {m : Nat} {ls : Array Bool} {a : Act} {w : World} (hr : Region.ready md ops ls = []) (h : Q .normal a w) : wpSink P md ops Q S n m ls a w := by
  cases m with
  | zero => exact ⟨hr, h⟩
  | succ m => exact ⟨fun _ => h, fun i hi => by rw [hr] at hi; cases hi⟩
end
end Go.Proofs.YthigandmemifoaaGreatDoor

namespace Go.Proofs.YthigandmemifoaaGreatDoor
open Go

section
variable {P : Program} {ops : Array Oper} {Q : Exit → Act → World → Prop} {md : Region.Mode} {S : World → Prop} {n : Nat}

/-- how many haven't come -/
def unCome (ls : Array Bool) : Nat := ls.toList.countP (fun b => !b)
theorem unCome_pos {ls : Array Bool} {i : Nat} (h : ls.getD i true = false) : 0 < unCome ls ∧ ∃ hi : i < ls.size, ls[i] = false := by
  have hi : i < ls.size := by
    rcases Nat.lt_or_ge i ls.size with h' | h'
    · exact h'
    · simp [Array.getElem?_eq_none h'] at h
  have hv : ls[i] = false := by simpa [hi] using h
  refine ⟨?_, hi, hv⟩
  rw [unCome, List.countP_pos_iff]
  exact ⟨ls[i], by simp, by simp [hv]⟩
theorem unCome_set {ls : Array Bool} {i : Nat} (h : ls.getD i true = false) : unCome (ls.setIfInBounds i true) + 1 = unCome ls := by
  obtain ⟨hp, hi, hv⟩ := unCome_pos h
  have hl : i < ls.toList.length := by simpa using hi
  have hv' : ls.toList[i] = false := by simpa using hv
  rw [unCome, Array.toList_setIfInBounds, List.countP_set hl, hv']
  rw [unCome] at hp
  simp only [Bool.not_false, Bool.not_true, if_true, Bool.false_eq_true, if_false]
  show _ = List.countP (fun b => !b) ls.toList
  omega

/-- each waits for such alone that stand ahead of it -/
def backB (ops : Array Oper) : Bool := (List.range ops.size).all fun i => match ops[i]? with | some o => o.after.all fun e => decide (e.on < i) | none => true

theorem ready_un {i : Nat} {ls : Array Bool} (h : i ∈ Region.ready md ops ls) : ls.getD i true = false := (mem_ready.1 h).1
theorem ready_lt {i : Nat} {ls : Array Bool} (h : i ∈ Region.ready md ops ls) : i < ops.size := by
  obtain ⟨_, o, ho, _⟩ := mem_ready.1 h
  exact (Array.getElem?_eq_some_iff.1 ho).1
theorem ready_dep {i j : Nat} {ls : Array Bool} (hw : Region.waitsFor md ops i j = true) (h : i ∈ Region.ready md ops ls) : ls.getD j false = true := by
  obtain ⟨oj, ho, e, he, hb, hon⟩ := Region.waitsFor_spec hw
  obtain ⟨_, oj', ho', hall⟩ := mem_ready.1 h
  rw [ho] at ho'
  cases ho'
  rw [← hon]
  exact hall e he hb
/-- if none may come all have come -/
theorem all_come {ls : Array Bool} (hb : backB ops = true) (hsz : ls.size = ops.size) (h : Region.ready md ops ls = []) : ∀ i, i < ops.size → ls.getD i false = true := by
  intro i
  induction i using Nat.strongRecOn with
  | _ i ih =>
    intro hi
    have hil : i < ls.size := by omega
    rcases hv : ls[i] with _ | _
    · exfalso
      have hm : i ∈ Region.ready md ops ls := by
        rw [mem_ready]
        refine ⟨by simp [hil, hv], ops[i], by simp [hi], ?_⟩
        intro e he _
        rw [backB, List.all_eq_true] at hb
        have := hb i (by simp [hi])
        simp only [hi, Array.getElem?_eq_getElem, Array.all_eq_true_iff_forall_mem] at this
        have hlt := of_decide_eq_true (this e he)
        exact ih e.on hlt (by omega)
      rw [h] at hm
      cases hm
    · simp [hil, hv]

theorem sink_inv {I : Array Bool → Act → World → Prop} (hb : backB ops = true) (hz : ∀ ls a w, I ls a w → ls.size = ops.size)
    (hI : ∀ i, i < ops.size → ∀ ls a w, I ls a w → i ∈ Region.ready md ops ls → wpOp P ops Q i (fun a' w' => (i = n ∨ S w') ∧ I (ls.setIfInBounds i true) a' w') a w)
    (he : ∀ ls a w, I ls a w → (∀ i, i < ops.size → ls.getD i false = true) → Q .normal a w) :
    ∀ m ls a w, unCome ls ≤ m → I ls a w → wpSink P md ops Q S n m ls a w := by
  intro m
  induction m with
  | zero =>
    intro ls a w hm h
    have h0 : Region.ready md ops ls = [] := by
      rcases hr : Region.ready md ops ls with _ | ⟨i, rest⟩
      · rfl
      · have hi : i ∈ Region.ready md ops ls := by rw [hr]; simp
        have := (unCome_pos (ready_un hi)).1
        omega
    exact ⟨h0, he ls a w h (all_come hb (hz _ _ _ h) h0)⟩
  | succ m ih =>
    intro ls a w hm h
    refine ⟨fun h0 => he ls a w h (all_come hb (hz _ _ _ h) h0), fun i hi => ?_⟩
    have hs := unCome_set (ready_un hi)
    exact wpOp_mono (fun a' w' h' => ⟨h'.1, ih _ a' w' (by omega) h'.2⟩) (hI i (ready_lt hi) ls a w h hi)

/-- take number i first, where S holds behind every operation -/
theorem sink_take0 {i : Nat} {oi : Oper} {v : Value} {m : Nat} {ls : Array Bool} {a : Act} {w : World} (hi : ops[i]? = some oi) (hs : Region.noSelect ops = true) (hw : ops.size ≤ n)
    (hf : Region.free md ops ls i = true) (hr : (Region.ready md ops ls).contains i = true) (hQ : ∀ c a w, Q (.panic c) (a.put oi.dst v) w → Q (.panic c) a w)
    (hy : YieldsIf P ops S oi v a) (hS : S w) (h : wpSink P md ops Q S n m (ls.setIfInBounds i true) (a.put oi.dst v) w) : wpSink P md ops Q S n (m + 1) ls a w := by
  have hsel := Region.noSelect_spec hs
  have hc := Region.free_spec hi hf
  replace hr : i ∈ Region.ready md ops ls := by simpa using hr
  clear hf
  induction m generalizing ls a w with
  | zero =>
    refine ⟨fun h0 => absurd hr (by rw [h0]; simp), fun j hj => ?_⟩
    by_cases hji : j = i
    · rw [hji]
      exact hy.wpOp hi hS ⟨Or.inr hS, h⟩
    · have h0 := ready_mono hj hji
      rw [h.1] at h0
      cases h0
  | succ m ih =>
    refine ⟨fun h0 => absurd hr (by rw [h0]; simp), fun j hj => ?_⟩
    by_cases hji : j = i
    · rw [hji]
      exact hy.wpOp hi hS ⟨Or.inr hS, h⟩
    · have hjn : j ≠ n := fun e => by have := ready_lt hj; omega
      have h1 := h.2 j (ready_mono hj hji)
      obtain ⟨hjun, oj, hoj, hall⟩ := mem_ready.1 hj
      have hno : ∀ e ∈ oj.after, Region.binds md e = true → e.on ≠ i := by
        intro e he hb hon
        have h2 := hall e he hb
        rw [hon, getD_both (mem_ready.1 hr).1] at h2
        cases h2
      have h3 := wpOp_putIf hoj (hc j oj hoj hji hjun hno) (fun cs b => hsel i oi cs b hi) (fun cs b => hsel j oj cs b hoj) hQ hy h1
      refine wpOp_mono (fun a' w' h4 => ?_) h3
      have hS' : S w' := h4.2.1.resolve_left hjn
      refine ⟨Or.inr hS', ih h4.1 hS' ?_ (fun k ok hk hki hun hno => ?_) (ready_mono hr (Ne.symm hji))⟩
      · have h5 := h4.2.2
        rw [Array.setIfInBounds_comm _ _ (Ne.symm hji)] at h5
        exact h5
      · by_cases e : j = k
        · subst e; exact hc j ok hk hki hjun hno
        · exact hc k ok hk hki (by rw [getD_set_ne true e] at hun; exact hun) hno
/-- the same, the place where it lays its value written out -/
theorem sink_take1 {i : Nat} {oi : Oper} {d : Option Tmp} {v : Value} {m : Nat} {ls : Array Bool} {a : Act} {w : World} (hi : ops[i]? = some oi) (hd : oi.dst = d) (hs : Region.noSelect ops = true) (hw : ops.size ≤ n)
    (hf : Region.free md ops ls i = true) (hr : (Region.ready md ops ls).contains i = true) (hQ : ∀ c a w, Q (.panic c) (a.put d v) w → Q (.panic c) a w)
    (hy : YieldsIf P ops S oi v a) (hS : S w) (h : wpSink P md ops Q S n m (ls.setIfInBounds i true) (a.put d v) w) : wpSink P md ops Q S n (m + 1) ls a w := by
  subst hd
  exact sink_take0 hi hs hw hf hr hQ hy hS h
end
end Go.Proofs.YthigandmemifoaaGreatDoor

namespace Go.Proofs.YthigandmemifoaaGreatDoor
open Go.RowKit Go.PlainAid
set_option maxRecDepth 100000

theorem lc_next (s : ByteArray) (k : Nat) (h : k < s.size) : ((bs s).take (k + 1)).all lc = (((bs s).take k).all lc && lc (bt s k)) := by
  rw [← bs_at]
  have := all_next lc (bs s) k (by rw [bs_len]; exact h)
  exact this
theorem lc_not (s : ByteArray) (k : Nat) (h : k < s.size) (hf : lc (bt s k) = false) : (bs s).all lc = false := by
  rw [← bs_at] at hf
  exact all_not lc (bs s) k (by rw [bs_len]; exact h) hf

set_option maxHeartbeats 1600000 in
theorem isText37 (s : ByteArray) (w : World) : Calls Tryz.prog 93 #[.string s] w fun e w' => e = .returned (.bool (txB s)) ∧ w' = w := by
  have gb := get_bt s
  by_cases h1 : 1 ≤ s.size
  · by_cases h2 : s.size ≤ 16
    · have c1 : ¬ (s.size : Int) < 1 := by omega
      have c2 : ¬ (16 : Int) < (s.size : Int) := by omega
      have E0 : Hid (txB s = (bs s).all lc) := by show _ = _; rw [txB, decide_eq_true ⟨h1, h2⟩, Bool.true_and]
      go_enter Tryz.func93, Tryz.ntmps93
      go_wp2_with fail
      go_loopw [15] (fun i wr => ∃ k : Nat, k ≤ s.size ∧ i = .int .i64 k ∧ ((bs s).take k).all lc = true ∧ wr = w) (fun i _ => s.size - (intOf i).toNat)
      case atStart => exact ⟨0, Nat.zero_le _, rfl, by simp, rfl⟩
      case round =>
        obtain ⟨k, hk, rfl, hall, rfl⟩ := hrel
        have HA := Lib.hid hall
        clear hall
        by_cases hlt : k < s.size
        · have c0 : (k : Int) < (s.size : Int) := by omega
          have HL := Lib.hid (lc_next s k hlt)
          have HN := Lib.hid (lc_not s k hlt)
          by_cases hp : lc (bt s k) = true
          · have HP := Lib.hid hp
            have hp : (97 ≤ bt s k ∧ bt s k ≤ 122) ∨ (48 ≤ bt s k ∧ bt s k ≤ 57) := of_decide_eq_true hp
            rcases hp with ⟨p1, p2⟩ | ⟨p1, p2⟩
            all_goals
              go_wp2_with fail
              all_goals
                go_roundw
                case rel => exact ⟨k + 1, by omega, by go_num, by rw [HL.out, HA.out, HP.out]; rfl, trivial⟩
                case measure => simp [intOf]; omega
          · have hp : lc (bt s k) = false := by simpa using hp
            have E1 := Lib.hid (E0.out.trans (HN.out hp))
            have hp : ¬ ((97 ≤ bt s k ∧ bt s k ≤ 122) ∨ (48 ≤ bt s k ∧ bt s k ≤ 57)) := of_decide_eq_false hp
            have : (bt s k < 48) ∨ (57 < bt s k ∧ bt s k < 97) ∨ (122 < bt s k) := by omega
            clear hp
            rcases this with p1 | ⟨p1, p2⟩ | p1
            all_goals
              go_wp2
              all_goals
                rw [E1.out]
                go_ret
                exact ⟨rfl, rfl⟩
        · obtain rfl : k = s.size := by omega
          have E1 : Hid (txB s = true) := by show _ = _; rw [E0.out, ← HA.out, List.take_of_length_le (by rw [bs_len]; omega)]
          go_wp2
          rw [E1.out]
          go_ret
          exact ⟨rfl, rfl⟩
    · have c1 : ¬ (s.size : Int) < 1 := by omega
      have c2 : (16 : Int) < (s.size : Int) := by omega
      have e : txB s = false := by rw [txB, decide_eq_false (fun h => h2 h.2)]; rfl
      rw [e]
      go_enter Tryz.func93, Tryz.ntmps93
      go_wp2
      go_ret
      exact ⟨rfl, rfl⟩
  · have c1 : (s.size : Int) < 1 := by omega
    have e : txB s = false := by rw [txB, decide_eq_false (fun h => h1 h.1)]; rfl
    rw [e]
    go_enter Tryz.func93, Tryz.ntmps93
    go_wp2
    go_ret
    exact ⟨rfl, rfl⟩

set_option maxHeartbeats 800000 in
theorem mayStand36 (k : Int) (b : Bool) (w : World) : Calls Tryz.prog 92 #[.int .i64 k, .bool b] w fun e w' => e = .returned (.bool (stB k b)) ∧ w' = w := by
  by_cases h0 : k = 0
  · subst h0
    have e : stB 0 b = true := rfl
    rw [e]
    go_enter Tryz.func92, Tryz.ntmps92
    go_wp2
    go_ret
    exact ⟨rfl, rfl⟩
  by_cases h1 : k = 1
  · subst h1
    have e : stB 1 b = true := rfl
    rw [e]
    go_enter Tryz.func92, Tryz.ntmps92
    go_wp2
    go_ret
    exact ⟨rfl, rfl⟩
  by_cases h2 : k = 2
  · subst h2
    have e : stB 2 b = b := rfl
    rw [e]
    go_enter Tryz.func92, Tryz.ntmps92
    go_wp2
    go_ret
    exact ⟨rfl, rfl⟩
  by_cases h3 : k = 3
  · subst h3
    have e : stB 3 b = b := rfl
    rw [e]
    go_enter Tryz.func92, Tryz.ntmps92
    go_wp2
    go_ret
    exact ⟨rfl, rfl⟩
  have e : stB k b = false := by simp [stB, h0, h1, h2, h3]
  have c0 : (k == 0) = false := by simpa using h0
  have c1 : (k == 1) = false := by simpa using h1
  have c2 : (k == 2) = false := by simpa using h2
  have c3 : (k == 3) = false := by simpa using h3
  rw [e]
  go_enter Tryz.func92, Tryz.ntmps92
  go_wp2
  go_ret
  exact ⟨rfl, rfl⟩

set_option maxHeartbeats 800000 in
set_option maxRecDepth 100000 in
/-- the closure that looks for a name -/
theorem look52 (o1 : Int) (o2 : ByteArray) (fb : Nat) (g : Sg) (w : World) (hf : w.heap[fb]? = some (.cells #[.int .i64 g.1, .string g.2] 28 (0, 0))) :
    Calls Tryz.prog 105 #[.agg #[.int .i64 o1, .string o2], .pointer (some ⟨fb, 0, none⟩)] w fun e w' => e = .returned (.bool (twP g (o1, o2))) ∧ Below w.heap.size w w' := by
  have k1 : ∀ o, (w.alloc o).cell? ⟨fb, 1, none⟩ = some (.string g.2) := fun o => (blk2 (blk_alloc hf o)).2.1
  clear hf
  by_cases h1 : o1 = 0
  · subst h1
    have e : twP g (0, o2) = false := decide_eq_false (fun h => h.1 rfl)
    rw [e]
    go_enter Tryz.func105, Tryz.ntmps105
    go_wp2
    go_ret
    exact ⟨rfl, (Below.refl _ _).alloc (Nat.le_refl _) _⟩
  · have c1 : (o1 == 0) = false := by simpa using h1
    have e : twP g (o1, o2) = (o1 != 0 && o2.toList == g.2.toList) := by
      rw [bs_eq, twP]
      simp [h1]
    rw [e]
    go_enter Tryz.func105, Tryz.ntmps105
    go_wp2
    go_ret
    exact ⟨rfl, (Below.refl _ _).alloc (Nat.le_refl _) _⟩

theorem any_next {α : Type} [Inhabited α] (f : α → Bool) (l : List α) (k : Nat) (h : k < l.length) : (l.take (k + 1)).any f = ((l.take k).any f || f (l.getD k default)) := by
  have e : l.take (k + 1) = l.take k ++ [l.getD k default] := by
    rw [List.take_add_one]
    simp only [List.getD, List.getElem?_eq_getElem h, Option.toList_some, Option.getD_some]
  rw [e, List.any_append]
  simp
theorem any_at {α : Type} [Inhabited α] (f : α → Bool) (l : List α) (k : Nat) (h : k < l.length) (hf : f (l.getD k default) = true) : l.any f = true := by
  rw [List.any_eq_true]
  exact ⟨_, getD_mem l k h, hf⟩

set_option maxHeartbeats 1600000 in
theorem idx62 (v : Value) (l : List Sg) (g : Sg) (fb : Nat) (w : World) (h : Gs w v l) (hz : l.length ≤ 1000000000) (hf : w.heap[fb]? = some (.cells #[.int .i64 g.1, .string g.2] 28 (0, 0))) :
    Calls Tryz.prog 68 #[v, .func (.func 105) #[] #[.pointer (some ⟨fb, 0, none⟩)]] w fun e w' => ∃ r : Int, e = .returned (.int .i64 r) ∧ (decide (0 ≤ r) = l.any (twP g)) ∧ Below w.heap.size w w' := by
  obtain ⟨A, cap, rfl, _, _, hc⟩ := h
  have HC := Lib.hid hc
  have HF := Lib.hid hf
  clear hc hf
  go_enter Tryz.func68, Tryz.ntmps68
  go_wp2_with fail
  go_loopw [8] (fun i wr => ∃ (k : Nat), k ≤ l.length ∧ i = .int .i64 k ∧ (l.take k).any (twP g) = false ∧ Below w.heap.size w wr) (fun i _ => l.length - (intOf i).toNat)
  case atStart => exact ⟨0, Nat.zero_le _, rfl, by simp, Below.refl _ _⟩
  case round =>
    obtain ⟨k, hk, rfl, ht, hbw⟩ := hrel
    have HT := Lib.hid ht
    have HW := Lib.hid hbw
    clear ht hbw
    by_cases hlt : k < l.length
    · have d0 : (k : Int) < (l.length : Int) := by omega
      obtain ⟨x, o, rfl, hcell, hcelb⟩ := HC.out k hlt
      have g1 : wr.cell? ⟨x, o + k * 2, none⟩ = some (.int .i64 (l.getD k default).1) := by rw [HW.out.cell (World.block_lt_of_cell? _ _ hcell)]; exact hcell
      have g3 : wr.cell? ⟨x, o + k * 2 + 1, none⟩ = some (.string (l.getD k default).2) := by rw [HW.out.cell (World.block_lt_of_cell? _ _ hcelb)]; exact hcelb
      have HN := Lib.hid (any_next (twP g) l k hlt)
      have HY := Lib.hid (any_at (twP g) l k hlt)
      have HF2 := Lib.hid ((HW.out.block fb (blk_lt HF.out)).trans HF.out)
      clear hcell hcelb
      generalize l.getD k default = s at *
      obtain ⟨s1, s2⟩ := s
      simp only at g1 g3
      by_cases hp : twP g (s1, s2) = true
      · go_wp2_with (go_at_call 105; refine (look52 _ _ _ g _ HF2.out).mono ?_; rintro e w' ⟨rfl, hb'⟩; rw [hp]; have HB' := Lib.hid hb'; clear hb')
        go_ret
        exact ⟨_, rfl, by rw [HY.out hp]; exact decide_eq_true (by omega), HW.out.trans (HB'.out.mono HW.out.size)⟩
      · have hp : twP g (s1, s2) = false := by simpa using hp
        go_wp2_with (go_at_call 105; refine (look52 _ _ _ g _ HF2.out).mono ?_; rintro e w' ⟨rfl, hb'⟩; rw [hp]; have HB' := Lib.hid hb'; clear hb')
        go_roundw
        case rel => exact ⟨k + 1, by omega, by go_num, by rw [HN.out, HT.out, hp]; rfl, HW.out.trans (HB'.out.mono HW.out.size)⟩
        case measure => simp [intOf]; omega
    · obtain rfl : k = l.length := by omega
      have E0 : Hid (l.any (twP g) = false) := by show _ = _; rw [← HT.out, List.take_length]
      go_wp2
      go_ret
      exact ⟨_, rfl, by rw [E0.out]; rfl, HW.out⟩

set_option maxHeartbeats 800000 in
theorem has51 (v : Value) (l : List Sg) (g : Sg) (fb : Nat) (w : World) (h : Gs w v l) (hz : l.length ≤ 1000000000) (hf : w.heap[fb]? = some (.cells #[.int .i64 g.1, .string g.2] 28 (0, 0))) :
    Calls Tryz.prog 45 #[v, .func (.func 105) #[] #[.pointer (some ⟨fb, 0, none⟩)]] w fun e w' => e = .returned (.bool (l.any (twP g))) ∧ Below w.heap.size w w' := by
  have H := Lib.hid h
  have HF := Lib.hid hf
  obtain ⟨A, n, c, rfl⟩ := h.shape
  clear h hf
  go_enter Tryz.func45, Tryz.ntmps45
  go_wp2_with fail
  refine (idx62 _ l g fb _ H.out hz HF.out).mono ?_
  rintro e w1 ⟨r, rfl, hr, hb⟩
  have HB := Lib.hid hb
  have HR := Lib.hid hr
  clear hb hr
  go_wp2
  rw [← HR.out]
  go_ret
  exact ⟨rfl, HB.out⟩

set_option maxHeartbeats 800000 in
theorem isTwice38 (g1 : Int) (g2 : ByteArray) (v : Value) (l : List Sg) (w : World) (h : Gs w v l) (hz : l.length ≤ 1000000000) :
    Calls Tryz.prog 94 #[.agg #[.int .i64 g1, .string g2], v] w fun e w' => e = .returned (.bool (twB (g1, g2) l)) ∧ Below w.heap.size w w' := by
  have HB := Lib.hid ((Below.refl w.heap.size w).alloc (Nat.le_refl _) (.cells #[.int .i64 g1, .string g2] 28 (0, 0)))
  have HF := Lib.hid (blk_new w (.cells #[.int .i64 g1, .string g2] 28 (0, 0)))
  have H := Lib.hid (h.call HB.out)
  obtain ⟨A, n, c, rfl⟩ := h.shape
  clear h
  by_cases h0 : g1 = 0
  · subst h0
    have e : twB (0, g2) l = false := by rw [twB, if_pos rfl]
    rw [e]
    go_enter Tryz.func94, Tryz.ntmps94
    go_wp2
    go_ret
    exact ⟨rfl, HB.out⟩
  · have c0 : (g1 == 0) = false := by simpa using h0
    have e : twB (g1, g2) l = l.any (twP (g1, g2)) := by rw [twB, if_neg h0]
    rw [e]
    go_enter Tryz.func94, Tryz.ntmps94
    go_wp2_with fail
    refine (has51 _ l (g1, g2) _ _ H.out hz HF.out).mono ?_
    rintro e w1 ⟨rfl, hb⟩
    have HB1 := Lib.hid (HB.out.trans (hb.mono HB.out.size))
    clear hb
    go_wp2
    go_ret
    exact ⟨rfl, HB1.out⟩

theorem Gs.take {w : World} {A : Option Addr} {n c : Nat} {l : List Sg} (h : Gs w (.slice A n c) l) (k : Nat) (hk : k ≤ l.length) : Gs w (.slice A k c) (l.take k) := by
  obtain ⟨A', cap, e, h1, h2, h3⟩ := h
  simp only [Value.slice.injEq] at e
  obtain ⟨rfl, _, rfl⟩ := e
  have hl : (l.take k).length = k := by simp; omega
  refine ⟨A, c, by rw [hl], by omega, h2, fun i hi => ?_⟩
  obtain ⟨b, o, ha, h4, h5⟩ := h3 i (by omega)
  have e : (l.take k).getD i default = l.getD i default := by
    simp only [List.getD]
    rw [List.getElem?_take_of_lt (by omega)]
  rw [e]
  exact ⟨b, o, ha, h4, h5⟩

end Go.Proofs.YthigandmemifoaaGreatDoor
