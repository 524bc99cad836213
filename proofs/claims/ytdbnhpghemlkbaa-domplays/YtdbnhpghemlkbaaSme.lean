/-
  porticobook's Same at attributes and at numbers, and Within.
-/
import Derived.Test.YtdbnhpghemlkbaaFre
import Derived.Deep.LoopGhost
import Derived.Deep.RegionHeld3
import Derived.Deep.RegionLaw
namespace Go.Proofs.Ytdbnhpghemlkbaa
open Go.RowKit Go.PlainAid Dm
set_option maxRecDepth 100000

theorem take_eq_next {α : Type} [Inhabited α] {a b : List α} {k : Nat} (h : a.take k = b.take k) (h1 : k < a.length) (h2 : k < b.length) (he : a.getD k default = b.getD k default) : a.take (k + 1) = b.take (k + 1) := by
  rw [List.take_add_one, List.take_add_one, h]
  simp only [List.getD, List.getElem?_eq_getElem h1, List.getElem?_eq_getElem h2, Option.getD_some] at he
  rw [List.getElem?_eq_getElem h1, List.getElem?_eq_getElem h2, he]
theorem ne_at {α : Type} [Inhabited α] {a b : List α} {k : Nat} (he : ¬ a.getD k default = b.getD k default) : ¬ a = b := fun h => he (by rw [h])
theorem bs_eq (s t : ByteArray) : (s.toList == t.toList) = decide (s = t) := by
  by_cases h : s = t
  · subst h; simp
  · rw [decide_eq_false h, beq_eq_false_iff_ne]
    intro e
    rw [Lib.toList_data, Lib.toList_data] at e
    exact h (ByteArray.ext (Array.toList_inj.1 e))
theorem str_beq (s t : ByteArray) (h : s = t) : (s.toList == t.toList) = true := by rw [h]; simp
theorem str_bne (s t : ByteArray) (h : ¬ s = t) : (s.toList == t.toList) = false := by rw [bs_eq]; exact decide_eq_false h

theorem add_lit' (b i : Nat) : (⟨b, 0, none⟩ : Addr).add i = ⟨b, 0 + i, none⟩ := by rw [Addr.add_lit]

abbrev Pr := Tx × Tx
theorem pr_beq (s t : Pr) (h : s = t) : (s.1.toList == t.1.toList) = true ∧ (s.2.toList == t.2.toList) = true := by rw [h]; simp
theorem pr_bne (s t : Pr) (h : ¬ s = t) : (s.1.toList == t.1.toList) = false ∨ ((s.1.toList == t.1.toList) = true ∧ (s.2.toList == t.2.toList) = false) := by
  by_cases h1 : s.1 = t.1
  · exact Or.inr ⟨str_beq _ _ h1, str_bne _ _ (fun h2 => h (Prod.ext h1 h2))⟩
  · exact Or.inl (str_bne _ _ h1)
/-- pairs as they are read -/
def Ps (w : World) (v : Value) (l : List Pr) : Prop :=
  ∃ A cap, v = .slice A l.length cap ∧ l.length ≤ cap ∧ (A = none → cap = 0) ∧ ∀ i, i < l.length → ∃ b o, A = some ⟨b, o, none⟩ ∧ w.cell? ⟨b, o + i * 2, none⟩ = some (.string (l.getD i default).1) ∧ w.cell? ⟨b, o + i * 2 + 1, none⟩ = some (.string (l.getD i default).2)
theorem Ps.call {w w' : World} {v : Value} {l : List Pr} (h : Ps w v l) (hb : Below w.heap.size w w') : Ps w' v l := by
  obtain ⟨A, cap, h1, h2, h3, h4⟩ := h
  refine ⟨A, cap, h1, h2, h3, fun i hi => ?_⟩
  obtain ⟨b, o, ha, hc, hd⟩ := h4 i hi
  exact ⟨b, o, ha, by rw [hb.cell (World.block_lt_of_cell? w _ hc)]; exact hc, by rw [hb.cell (World.block_lt_of_cell? w _ hd)]; exact hd⟩
theorem atC_at (l : List Pr) (i : Nat) (h : i < l.length) : (l.flatMap atC)[i * 2]? = some (.string (l.getD i default).1) ∧ (l.flatMap atC)[i * 2 + 1]? = some (.string (l.getD i default).2) := by
  induction l generalizing i with
  | nil => simp at h
  | cons p l ih =>
    cases i with
    | zero => simp [atC]
    | succ i =>
      have := ih i (by simpa using h)
      have e : (p :: l).flatMap atC = atC p ++ l.flatMap atC := rfl
      rw [e]
      constructor
      · rw [List.getElem?_append_right (by simp [atC]; omega)]
        have e2 : (i + 1) * 2 - (atC p).length = i * 2 := by simp [atC]; omega
        rw [e2]; simpa using this.1
      · rw [List.getElem?_append_right (by simp [atC]; omega)]
        have e2 : (i + 1) * 2 + 1 - (atC p).length = i * 2 + 1 := by simp [atC]; omega
        rw [e2]; simpa using this.2
theorem owns_ps {w : World} {B : Nat} {v : Value} {l : List Pr} (h : w.ownsRow B 45 2 v l.length (l.flatMap atC)) : Ps w v l := by
  have hc := @World.ownsRow.cells _ _ _ _ _ _ _ h
  rcases h.2 with ⟨rfl, h1⟩ | ⟨g, cap, cur, rfl, _, _, h4, _⟩
  · obtain rfl : l = [] := List.eq_nil_of_length_eq_zero h1
    exact ⟨none, 0, rfl, by simp, fun _ => rfl, fun i hi => by simp at hi⟩
  · refine ⟨some ⟨g, 0, none⟩, cap, rfl, h4, (fun h => by cases h), fun i hi => ⟨g, 0, rfl, ?_, ?_⟩⟩
    · have := hc rfl (i * 2) _ (atC_at l i hi).1
      rw [add_lit'] at this
      exact this
    · have := hc rfl (i * 2 + 1) _ (atC_at l i hi).2
      rw [add_lit', ← Nat.add_assoc] at this
      exact this
/-- numbers as they are read -/
def Ni (w : World) (v : Value) (l : List Nat) : Prop :=
  ∃ A cap, v = .slice A l.length cap ∧ l.length ≤ cap ∧ (A = none → cap = 0) ∧ ∀ i, i < l.length → ∃ b o, A = some ⟨b, o, none⟩ ∧ w.cell? ⟨b, o + i, none⟩ = some (.int .i64 (l.getD i 0 : Nat))
theorem Ni.call {w w' : World} {v : Value} {l : List Nat} (h : Ni w v l) (hb : Below w.heap.size w w') : Ni w' v l := by
  obtain ⟨A, cap, h1, h2, h3, h4⟩ := h
  refine ⟨A, cap, h1, h2, h3, fun i hi => ?_⟩
  obtain ⟨b, o, ha, hc⟩ := h4 i hi
  exact ⟨b, o, ha, by rw [hb.cell (World.block_lt_of_cell? w _ hc)]; exact hc⟩
theorem owns_ni {w : World} {B : Nat} {v : Value} {l : List Nat} (h : w.ownsRow B 3 1 v l.length (niC l)) : Ni w v l := by
  have hc := @World.ownsRow.cells _ _ _ _ _ _ _ h
  rcases h.2 with ⟨rfl, h1⟩ | ⟨g, cap, cur, rfl, _, _, h4, _⟩
  · obtain rfl : l = [] := List.eq_nil_of_length_eq_zero h1
    exact ⟨none, 0, rfl, by simp, fun _ => rfl, fun i hi => by simp at hi⟩
  · refine ⟨some ⟨g, 0, none⟩, cap, rfl, h4, (fun h => by cases h), fun i hi => ⟨g, 0, rfl, ?_⟩⟩
    have := hc rfl i _ (niC_get l i hi)
    rw [add_lit'] at this
    exact this
theorem drN {w w' : World} (h : ∃ q, w' = w.drewN q) (k : Nat) : ∃ q, w'.drewN k = w.drewN q := by
  obtain ⟨q, rfl⟩ := h
  exact ⟨q + k, by simp [World.drewN, Nat.add_assoc]⟩
theorem drC {w w' : World} (h : ∃ q, w' = w.drewN q) (a : Addr) : w'.cell? a = w.cell? a := by obtain ⟨q, rfl⟩ := h; rfl

set_option maxHeartbeats 1600000 in
theorem sameA41 (v1 v2 : Value) (a b : List Pr) (w : World) (h1 : Ps w v1 a) (h2 : Ps w v2 b) (hz : a.length ≤ 1000000000) :
    Calls Try.prog 41 #[v1, v2] w fun e w' => e = .returned (.bool (decide (a = b))) ∧ Below w.heap.size w w' := by
  obtain ⟨A, cap, rfl, _, _, hc⟩ := h1
  obtain ⟨A2, cap2, rfl, _, _, hc2⟩ := h2
  have HC := Lib.hid hc
  have HC2 := Lib.hid hc2
  clear hc hc2
  by_cases hl : a.length = b.length
  · have HL := Lib.hid hl
    have c0 : ((a.length : Int) == (b.length : Int)) = true := by simp; omega
    clear hl
    go_enter Try.func41, Try.ntmps41
    go_wp2_with fail
    (try rw [c0])
    clear c0
    go_loopw [5] (fun i wr => ∃ (k : Nat), k ≤ a.length ∧ i = .int .i64 k ∧ a.take k = b.take k ∧ Below w.heap.size w wr) (fun i _ => a.length - (intOf i).toNat)
    case atStart => exact ⟨0, Nat.zero_le _, rfl, rfl, Below.refl _ _⟩
    case round =>
      obtain ⟨k, hk, rfl, ht, hbw⟩ := hrel
      have HT := Lib.hid ht
      have HW := Lib.hid hbw
      have hl2 := HL.out
      clear ht hbw
      by_cases hlt : k < a.length
      · have d0 : (k : Int) < (a.length : Int) := by omega
        have d1 : (k : Int) < (b.length : Int) := by omega
        have HX := Lib.hid (take_eq_next HT.out hlt (by omega))
        have HY := Lib.hid (@ne_at _ _ a b k)
        obtain ⟨x, o, rfl, hcell, hcelb⟩ := HC.out k hlt
        obtain ⟨x2, o2, rfl, hcell2, hcelb2⟩ := HC2.out k (by omega)
        have g1 : wr.cell? ⟨x, o + k * 2, none⟩ = some (.string (a.getD k default).1) := by rw [HW.out.cell (World.block_lt_of_cell? _ _ hcell)]; exact hcell
        have g2 : wr.cell? ⟨x2, o2 + k * 2, none⟩ = some (.string (b.getD k default).1) := by rw [HW.out.cell (World.block_lt_of_cell? _ _ hcell2)]; exact hcell2
        have g3 : wr.cell? ⟨x, o + k * 2 + 1, none⟩ = some (.string (a.getD k default).2) := by rw [HW.out.cell (World.block_lt_of_cell? _ _ hcelb)]; exact hcelb
        have g4 : wr.cell? ⟨x2, o2 + k * 2 + 1, none⟩ = some (.string (b.getD k default).2) := by rw [HW.out.cell (World.block_lt_of_cell? _ _ hcelb2)]; exact hcelb2
        clear hcell hcell2 hcelb hcelb2
        clear hl2
        generalize a.getD k default = s at *
        generalize b.getD k default = t at *
        by_cases hst : s = t
        · obtain ⟨q1, q2⟩ := pr_beq s t hst
          obtain ⟨s, s'⟩ := s
          obtain ⟨t, t'⟩ := t
          simp only at q1 q2 g1 g2 g3 g4
          have HST := Lib.hid hst
          clear hst
          go_wp2_with fail
          go_region
          go_wp2_with fail
          go_roundw
          case rel => exact ⟨k + 1, by omega, by go_num, HX.out HST.out, HW.out.drew⟩
          case measure => simp [intOf]; omega
        · have e0 : decide (a = b) = false := decide_eq_false (HY.out hst)
          have E0 := Lib.hid e0
          have hq := pr_bne s t hst
          clear e0 hst HX HY
          obtain ⟨s, s'⟩ := s
          obtain ⟨t, t'⟩ := t
          simp only at hq g1 g2 g3 g4
          rcases hq with q1 | ⟨q1, q2⟩
          all_goals
            go_wp2_with fail
            go_region
            go_wp2
            rw [E0.out]
            go_ret
            exact ⟨rfl, HW.out.drew⟩
      · obtain rfl : k = a.length := by omega
        have e0 : decide (a = b) = true := by
          have := HT.out
          rw [List.take_length, hl2, List.take_length] at this
          exact decide_eq_true this
        have E0 := Lib.hid e0
        clear e0 hl2
        go_wp2
        rw [E0.out]
        go_ret
        exact ⟨rfl, HW.out⟩
  · have c0 : ¬ (a.length : Int) = (b.length : Int) := by omega
    have c1 : ((a.length : Int) == (b.length : Int)) = false := by simpa using c0
    have e0 : decide (a = b) = false := decide_eq_false (fun h => hl (by rw [h]))
    have E0 := Lib.hid e0
    clear e0
    go_enter Try.func41, Try.ntmps41
    go_wp2
    rw [E0.out]
    go_ret
    exact ⟨rfl, Below.refl _ _⟩

theorem nat_at {a b : List Nat} {k : Nat} (h : a.take k = b.take k) (h1 : k < a.length) (h2 : k < b.length) (he : a.getD k 0 = b.getD k 0) : a.take (k + 1) = b.take (k + 1) := by
  rw [List.take_add_one, List.take_add_one, h]
  simp only [List.getD, List.getElem?_eq_getElem h1, List.getElem?_eq_getElem h2, Option.getD_some] at he
  rw [List.getElem?_eq_getElem h1, List.getElem?_eq_getElem h2, he]

set_option maxHeartbeats 1600000 in
theorem sameI32 (v1 v2 : Value) (a b : List Nat) (w : World) (h1 : Ni w v1 a) (h2 : Ni w v2 b) (hz : a.length ≤ 1000000) (_ : b.length ≤ 1000000) :
    Calls Try.prog 32 #[v1, v2] w fun e w' => e = .returned (.bool (decide (a = b))) ∧ ∃ q, w' = w.drewN q := by
  obtain ⟨A, cap, rfl, _, _, hc⟩ := h1
  obtain ⟨A2, cap2, rfl, _, _, hc2⟩ := h2
  have HC := Lib.hid hc
  have HC2 := Lib.hid hc2
  clear hc hc2
  by_cases hl : a.length = b.length
  · have HL := Lib.hid hl
    have c0 : ((a.length : Int) == (b.length : Int)) = true := by simp; omega
    clear hl
    go_enter Try.func32, Try.ntmps32
    go_wp2_with fail
    (try rw [c0])
    clear c0
    go_loopw [5] (fun i wr => ∃ (k : Nat), k ≤ a.length ∧ i = .int .i64 k ∧ Hid (a.take k = b.take k) ∧ Hid (∃ q, wr = w.drewN q)) (fun i _ => a.length - (intOf i).toNat)
    case atStart => exact ⟨0, Nat.zero_le _, rfl, rfl, 0, rfl⟩
    case round =>
      obtain ⟨k, hk, rfl, HT, HW⟩ := hrel
      have hl2 := HL.out
      by_cases hlt : k < a.length
      · have d0 : (k : Int) < (a.length : Int) := by omega
        have d1 : (k : Int) < (b.length : Int) := by omega
        have HX := Lib.hid (nat_at HT.out hlt (by omega))
        have HY : Hid (¬ a.getD k 0 = b.getD k 0 → ¬ a = b) := fun h e => h (by rw [e])
        obtain ⟨x, o, rfl, hcell⟩ := HC.out k hlt
        obtain ⟨x2, o2, rfl, hcell2⟩ := HC2.out k (by omega)
        have g1 : wr.cell? ⟨x, o + k, none⟩ = some (.int .i64 (a.getD k 0 : Nat)) := by rw [drC HW.out]; exact hcell
        have g2 : wr.cell? ⟨x2, o2 + k, none⟩ = some (.int .i64 (b.getD k 0 : Nat)) := by rw [drC HW.out]; exact hcell2
        clear hcell hcell2 hl2
        generalize a.getD k 0 = s at *
        generalize b.getD k 0 = t at *
        by_cases hst : s = t
        · have q1 : ((s : Int) == (t : Int)) = true := by simp [hst]
          have HST := Lib.hid hst
          clear hst
          go_wp2_with fail
          go_quiet (fail)
          go_wp2_with fail
          go_roundw
          case rel => exact ⟨k + 1, by omega, by go_num, HX.out HST.out, drN HW.out _⟩
          case measure => simp [intOf]; omega
        · have q1 : ((s : Int) == (t : Int)) = false := by simp; omega
          have E0 : Hid (decide (a = b) = false) := decide_eq_false (HY.out hst)
          clear hst HX HY
          go_wp2_with fail
          go_quiet (fail)
          go_wp2
          rw [E0.out]
          go_ret
          exact ⟨rfl, drN HW.out _⟩
      · obtain rfl : k = a.length := by omega
        have E0 : Hid (decide (a = b) = true) := by
          have := HT.out
          rw [List.take_length, hl2, List.take_length] at this
          exact decide_eq_true this
        clear hl2
        go_wp2
        rw [E0.out]
        go_ret
        exact ⟨rfl, HW.out⟩
  · have c0 : ¬ (a.length : Int) = (b.length : Int) := by omega
    have c1 : ((a.length : Int) == (b.length : Int)) = false := by simpa using c0
    have E0 : Hid (decide (a = b) = false) := decide_eq_false (fun h => hl (by rw [h]))
    go_enter Try.func32, Try.ntmps32
    go_wp2
    rw [E0.out]
    go_ret
    exact ⟨rfl, 0, rfl⟩

def wi (n h : Int) : Int := if n.tmod (h + 1) < 0 then n.tmod (h + 1) + h + 1 else n.tmod (h + 1)
theorem wi_in (n h : Int) (h0 : 0 ≤ h) : 0 ≤ wi n h ∧ wi n h ≤ h := by
  have b1 := Int.tmod_lt_of_pos n (show 0 < h + 1 by omega)
  have b2 := Int.lt_tmod_of_pos n (show 0 < h + 1 by omega)
  unfold wi
  split <;> omega

set_option maxHeartbeats 400000 in
theorem within_any (n h : Int) (w : World) (h0 : 0 ≤ h) (h1 : h ≤ 100000) :
    Calls Try.prog 31 #[.int .i64 n, .int .i64 0, .int .i64 h] w fun e w' => e = .returned (.int .i64 (wi n h)) ∧ w = w' := by
  have b1 := Int.tmod_lt_of_pos n (show 0 < h + 1 by omega)
  have b2 := Int.lt_tmod_of_pos n (show 0 < h + 1 by omega)
  by_cases hneg : n.tmod (h + 1) < 0
  · have hw : Hid (wi n h = n.tmod (h + 1) + h + 1) := by unfold Hid wi; rw [if_pos hneg]
    go_enter Try.func31, Try.ntmps31
    go_wp2
    go_ret
    exact ⟨by rw [hw.out]; rfl, rfl⟩
  · have hw : Hid (wi n h = n.tmod (h + 1)) := by unfold Hid wi; rw [if_neg hneg]
    go_enter Try.func31, Try.ntmps31
    go_wp2
    go_ret
    exact ⟨by rw [hw.out]; rfl, rfl⟩
theorem within31 (n : Int) (h : Nat) (w : World) (h1 : h ≤ 100000) :
    Calls Try.prog 31 #[.int .i64 n, .int .i64 0, .int .i64 h] w fun e w' => ∃ r : Nat, r ≤ h ∧ e = .returned (.int .i64 r) ∧ w' = w := by
  refine (within_any n h w (by omega) (by omega)).mono ?_
  rintro e w' ⟨rfl, rfl⟩
  have := wi_in n h (by omega)
  exact ⟨(wi n h).toNat, by omega, by rw [Int.toNat_of_nonneg this.1], rfl⟩


end Go.Proofs.Ytdbnhpghemlkbaa
