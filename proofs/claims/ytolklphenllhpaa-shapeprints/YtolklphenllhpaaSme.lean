/-
  porticobook's Same at attributes, and Within.
-/
import Derived.Test.YtolklphenllhpaaBas
namespace Go.Proofs.Ytolklphenllhpaa
open Go.RowKit Go.PlainAid
set_option maxRecDepth 100000

set_option maxHeartbeats 1600000 in
theorem sameA24 (v1 v2 : Value) (a b : List Pr) (w : World) (h1 : Ps w v1 a) (h2 : Ps w v2 b) (hz : a.length ≤ 1000000000) :
    Calls Try.prog 24 #[v1, v2] w fun e w' => e = .returned (.bool (decide (a = b))) ∧ Below w.heap.size w w' := by
  obtain ⟨A, cap, rfl, _, _, hc⟩ := h1
  obtain ⟨A2, cap2, rfl, _, _, hc2⟩ := h2
  have HC := Lib.hid hc
  have HC2 := Lib.hid hc2
  clear hc hc2
  by_cases hl : a.length = b.length
  · have HL := Lib.hid hl
    have c0 : ((a.length : Int) == (b.length : Int)) = true := by simp; omega
    clear hl
    go_enter Try.func24, Try.ntmps24
    go_wp2_with fail
    (try rw [c0])
    clear c0
    go_loopw [5] (fun i wr => ∃ (k : Nat), k ≤ a.length ∧ i = .int .i64 k ∧ a.take k = b.take k ∧ Below w.heap.size w wr) (fun i _ => a.length - (intOf i).toNat)
    case atStart => exact ⟨0, Nat.zero_le _, rfl, rfl, Below.refl _ _⟩
    case round =>
      obtain ⟨k, hk, rfl, ht, hbw⟩ := hrel
      have HT := Lib.hid ht
      have HW := Lib.hid hbw
      have hl2 := HL.out
      clear ht hbw
      by_cases hlt : k < a.length
      · have d0 : (k : Int) < (a.length : Int) := by omega
        have d1 : (k : Int) < (b.length : Int) := by omega
        have HX := Lib.hid (take_eq_next HT.out hlt (by omega))
        have HY := Lib.hid (@ne_at _ _ a b k)
        obtain ⟨x, o, rfl, hcell, hcelb⟩ := HC.out k hlt
        obtain ⟨x2, o2, rfl, hcell2, hcelb2⟩ := HC2.out k (by omega)
        have g1 : wr.cell? ⟨x, o + k * 2, none⟩ = some (.string (a.getD k default).1) := by rw [HW.out.cell (World.block_lt_of_cell? _ _ hcell)]; exact hcell
        have g2 : wr.cell? ⟨x2, o2 + k * 2, none⟩ = some (.string (b.getD k default).1) := by rw [HW.out.cell (World.block_lt_of_cell? _ _ hcell2)]; exact hcell2
        have g3 : wr.cell? ⟨x, o + k * 2 + 1, none⟩ = some (.string (a.getD k default).2) := by rw [HW.out.cell (World.block_lt_of_cell? _ _ hcelb)]; exact hcelb
        have g4 : wr.cell? ⟨x2, o2 + k * 2 + 1, none⟩ = some (.string (b.getD k default).2) := by rw [HW.out.cell (World.block_lt_of_cell? _ _ hcelb2)]; exact hcelb2
        clear hcell hcell2 hcelb hcelb2
        clear hl2
        generalize a.getD k default = s at *
        generalize b.getD k default = t at *
        by_cases hst : s = t
        · obtain ⟨q1, q2⟩ := pr_beq s t hst
          obtain ⟨s, s'⟩ := s
          obtain ⟨t, t'⟩ := t
          simp only at q1 q2 g1 g2 g3 g4
          have HST := Lib.hid hst
          clear hst
          go_wp2_with fail
          go_region
          go_wp2_with fail
          go_roundw
          case rel => exact ⟨k + 1, by omega, by go_num, HX.out HST.out, HW.out.drew⟩
          case measure => simp [intOf]; omega
        · have e0 : decide (a = b) = false := decide_eq_false (HY.out hst)
          have E0 := Lib.hid e0
          have hq := pr_bne s t hst
          clear e0 hst HX HY
          obtain ⟨s, s'⟩ := s
          obtain ⟨t, t'⟩ := t
          simp only at hq g1 g2 g3 g4
          rcases hq with q1 | ⟨q1, q2⟩
          all_goals
            go_wp2_with fail
            go_region
            go_wp2
            rw [E0.out]
            go_ret
            exact ⟨rfl, HW.out.drew⟩
      · obtain rfl : k = a.length := by omega
        have e0 : decide (a = b) = true := by
          have := HT.out
          rw [List.take_length, hl2, List.take_length] at this
          exact decide_eq_true this
        have E0 := Lib.hid e0
        clear e0 hl2
        go_wp2
        rw [E0.out]
        go_ret
        exact ⟨rfl, HW.out⟩
  · have c0 : ¬ (a.length : Int) = (b.length : Int) := by omega
    have c1 : ((a.length : Int) == (b.length : Int)) = false := by simpa using c0
    have e0 : decide (a = b) = false := decide_eq_false (fun h => hl (by rw [h]))
    have E0 := Lib.hid e0
    clear e0
    go_enter Try.func24, Try.ntmps24
    go_wp2
    rw [E0.out]
    go_ret
    exact ⟨rfl, Below.refl _ _⟩

def wi (n h : Int) : Int := if n.tmod (h + 1) < 0 then n.tmod (h + 1) + h + 1 else n.tmod (h + 1)
theorem wi_in (n h : Int) (h0 : 0 ≤ h) : 0 ≤ wi n h ∧ wi n h ≤ h := by
  have b1 := Int.tmod_lt_of_pos n (show 0 < h + 1 by omega)
  have b2 := Int.lt_tmod_of_pos n (show 0 < h + 1 by omega)
  unfold wi
  split <;> omega

set_option maxHeartbeats 400000 in
theorem within_any (n h : Int) (w : World) (h0 : 0 ≤ h) (h1 : h ≤ 100000) :
    Calls Try.prog 17 #[.int .i64 n, .int .i64 0, .int .i64 h] w fun e w' => e = .returned (.int .i64 (wi n h)) ∧ w = w' := by
  have b1 := Int.tmod_lt_of_pos n (show 0 < h + 1 by omega)
  have b2 := Int.lt_tmod_of_pos n (show 0 < h + 1 by omega)
  by_cases hneg : n.tmod (h + 1) < 0
  · have hw : Hid (wi n h = n.tmod (h + 1) + h + 1) := by unfold Hid wi; rw [if_pos hneg]
    go_enter Try.func17, Try.ntmps17
    go_wp2
    go_ret
    exact ⟨by rw [hw.out]; rfl, rfl⟩
  · have hw : Hid (wi n h = n.tmod (h + 1)) := by unfold Hid wi; rw [if_neg hneg]
    go_enter Try.func17, Try.ntmps17
    go_wp2
    go_ret
    exact ⟨by rw [hw.out]; rfl, rfl⟩
theorem within17 (n : Int) (h : Nat) (w : World) (h1 : h ≤ 100000) :
    Calls Try.prog 17 #[.int .i64 n, .int .i64 0, .int .i64 h] w fun e w' => ∃ r : Nat, r ≤ h ∧ e = .returned (.int .i64 r) ∧ w' = w := by
  refine (within_any n h w (by omega) (by omega)).mono ?_
  rintro e w' ⟨rfl, rfl⟩
  have := wi_in n h (by omega)
  exact ⟨(wi n h).toNat, by omega, by rw [Int.toNat_of_nonneg this.1], rfl⟩


end Go.Proofs.Ytolklphenllhpaa
