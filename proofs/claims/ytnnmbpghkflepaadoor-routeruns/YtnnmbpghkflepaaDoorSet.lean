/-
  slices.Index, Contains at pairs; pattern.sameSet.
-/
import Derived.Test.YtnnmbpghkflepaaDoorRgt
import Derived.Test.YtnnmbpghkflepaaDoorSame
namespace Go.Proofs.YtnnmbpghkflepaaDoor
open Go.RowKit Go.PlainAid
set_option maxRecDepth 100000

def eqP (p q : Pr) : Bool := decide (q = p)
set_option maxHeartbeats 1600000 in
theorem idx61 (v : Value) (l : List Pr) (p1 p2 : ByteArray) (w : World) (h : Ps w v l) (hz : l.length ≤ 1000000000) :
    Calls Tryd.prog 54 #[v, .agg #[.string p1, .string p2]] w fun e w' => ∃ r : Int, e = .returned (.int .i64 r) ∧ (decide (0 ≤ r) = l.any (eqP (p1, p2))) ∧ Below w.heap.size w w' := by
  obtain ⟨A, cap, rfl, _, _, hc⟩ := h
  have HC := Lib.hid hc
  clear hc
  have HB := Lib.hid ((Below.refl w.heap.size w).alloc (Nat.le_refl _) (.cells #[.string p1, .string p2] 31 (0, 0)))
  have HV := Lib.hid (blk_new w (.cells #[.string p1, .string p2] 31 (0, 0)))
  go_enter Tryd.func54, Tryd.ntmps54
  go_wp2_with fail
  generalize w.alloc (.cells #[.string p1, .string p2] 31) = w5 at *
  have hsz := HB.out.size
  go_loopw [8] (fun i wr => ∃ (k : Nat), k ≤ l.length ∧ i = .int .i64 k ∧ (l.take k).any (eqP (p1, p2)) = false ∧ Below w5.heap.size w5 wr) (fun i _ => l.length - (intOf i).toNat)
  case atStart => exact ⟨0, Nat.zero_le _, rfl, by simp, Below.refl _ _⟩
  case round =>
    obtain ⟨k, hk, rfl, ht, hbw⟩ := hrel
    have HT := Lib.hid ht
    have HW := Lib.hid hbw
    obtain ⟨v0, v1, _, _⟩ := blk2 (blk_call HV.out hbw)
    clear ht hbw
    by_cases hlt : k < l.length
    · have d0 : (k : Int) < (l.length : Int) := by omega
      obtain ⟨x, o, rfl, hcell, hcelb⟩ := HC.out k hlt
      have g1 : wr.cell? ⟨x, o + k * 2, none⟩ = some (.string (l.getD k default).1) := by
        have hl := World.block_lt_of_cell? _ _ hcell
        rw [HW.out.cell (show x < w5.heap.size by have : x < w.heap.size := hl; omega), HB.out.cell hl]; exact hcell
      have g3 : wr.cell? ⟨x, o + k * 2 + 1, none⟩ = some (.string (l.getD k default).2) := by
        have hl := World.block_lt_of_cell? _ _ hcelb
        rw [HW.out.cell (show x < w5.heap.size by have : x < w.heap.size := hl; omega), HB.out.cell hl]; exact hcelb
      have HN := Lib.hid (any_next (eqP (p1, p2)) l k hlt)
      have HY := Lib.hid (any_at (eqP (p1, p2)) l k hlt)
      clear hcell hcelb
      generalize l.getD k default = s at *
      by_cases hp : (p1, p2) = s
      · have HP := Lib.hid (HY.out (decide_eq_true hp.symm))
        obtain ⟨q1, q2⟩ := pr_beq (p1, p2) s hp
        obtain ⟨s1, s2⟩ := s
        simp only at g1 g3 q1 q2
        clear hp
        go_wp2_with fail
        go_region
        go_wp2
        go_ret
        exact ⟨_, rfl, by rw [HP.out]; exact decide_eq_true (by omega), HB.out.trans ((HW.out.drew).mono hsz)⟩
      · have HP : Hid (eqP (p1, p2) s = false) := decide_eq_false (fun h => hp h.symm)
        have hq := pr_bne (p1, p2) s hp
        clear hp
        obtain ⟨s1, s2⟩ := s
        simp only at hq g1 g3
        rcases hq with q1 | ⟨q1, q2⟩
        all_goals
          go_wp2_with fail
          go_region
          go_wp2_with fail
          go_roundw
          case rel => exact ⟨k + 1, by omega, by go_num, by rw [HN.out, HT.out, HP.out]; rfl, HW.out.drew⟩
          case measure => simp [intOf]; omega
    · obtain rfl : k = l.length := by omega
      have E0 : Hid (l.any (eqP (p1, p2)) = false) := by show _ = _; rw [← HT.out, List.take_length]
      go_wp2
      go_ret
      exact ⟨_, rfl, by rw [E0.out]; rfl, HB.out.trans (HW.out.mono hsz)⟩
set_option maxHeartbeats 800000 in
theorem has48 (v : Value) (l : List Pr) (p1 p2 : ByteArray) (w : World) (h : Ps w v l) (hz : l.length ≤ 1000000000) :
    Calls Tryd.prog 43 #[v, .agg #[.string p1, .string p2]] w fun e w' => e = .returned (.bool (l.any (eqP (p1, p2)))) ∧ Below w.heap.size w w' := by
  have HB := Lib.hid ((Below.refl w.heap.size w).alloc (Nat.le_refl _) (.cells #[.string p1, .string p2] 31 (0, 0)))
  have H := Lib.hid (h.call HB.out)
  obtain ⟨A, n, c, rfl⟩ := h.shape
  clear h
  go_enter Tryd.func43, Tryd.ntmps43
  go_wp2_with fail
  refine (idx61 _ l p1 p2 _ H.out hz).mono ?_
  rintro e w1 ⟨r, rfl, hr, hb⟩
  have HB1 := Lib.hid (HB.out.trans (hb.mono HB.out.size))
  have HR := Lib.hid hr
  clear hb hr
  go_wp2
  rw [← HR.out]
  go_ret
  exact ⟨rfl, HB1.out⟩

theorem sm_is (a b : List Pr) : smB a b = (decide (a.length = b.length) && a.all (fun p => b.any (eqP p))) := rfl

set_option maxHeartbeats 1600000 in
theorem sameSet29 (v1 v2 : Value) (a b : List Pr) (w : World) (h1 : Ps w v1 a) (h2 : Ps w v2 b) (hz : b.length ≤ 1000000000) :
    Calls Tryd.prog 29 #[v1, v2] w fun e w' => e = .returned (.bool (smB a b)) ∧ Below w.heap.size w w' := by
  have E0 := Lib.hid (sm_is a b)
  have H2 := Lib.hid h2
  obtain ⟨A, cap, rfl, _, _, hc⟩ := h1
  obtain ⟨A2, c2, rfl, _, _, _⟩ := h2
  have HC := Lib.hid hc
  clear hc
  by_cases hl : a.length = b.length
  · have c0 : ((a.length : Int) == (b.length : Int)) = true := by simp; omega
    have c9 : ((a.length : Int) != (b.length : Int)) = false := by simp; omega
    have E1 : Hid (smB a b = a.all (fun p => b.any (eqP p))) := by show _ = _; rw [E0.out, decide_eq_true hl, Bool.true_and]
    have HL := Lib.hid hl
    have haz : a.length ≤ 1000000000 := by omega
    clear hl
    go_enter Tryd.func29, Tryd.ntmps29
    go_wp2_with fail
    (try rw [c9])
    clear c0 c9
    go_loopw [14] (fun i wr => ∃ (k : Nat), k ≤ a.length ∧ i = .int .i64 k ∧ (a.take k).all (fun p => b.any (eqP p)) = true ∧ Below w.heap.size w wr) (fun i _ => a.length - (intOf i).toNat)
    case atStart => exact ⟨0, Nat.zero_le _, rfl, by simp, Below.refl _ _⟩
    case round =>
      obtain ⟨k, hk, rfl, hall, hbw⟩ := hrel
      have HA := Lib.hid hall
      have HW := Lib.hid hbw
      clear hall hbw
      by_cases hlt : k < a.length
      · have d0 : (k : Int) < (a.length : Int) := by omega
        obtain ⟨x, o, rfl, hcell, hcelb⟩ := HC.out k hlt
        have g1 : wr.cell? ⟨x, o + k * 2, none⟩ = some (.string (a.getD k default).1) := by rw [HW.out.cell (World.block_lt_of_cell? _ _ hcell)]; exact hcell
        have g3 : wr.cell? ⟨x, o + k * 2 + 1, none⟩ = some (.string (a.getD k default).2) := by rw [HW.out.cell (World.block_lt_of_cell? _ _ hcelb)]; exact hcelb
        have HN := Lib.hid (all_next (fun p => b.any (eqP p)) a k hlt)
        have HQ := Lib.hid (all_not (fun p => b.any (eqP p)) a k hlt)
        clear hcell hcelb
        generalize a.getD k default = s at *
        obtain ⟨s1, s2⟩ := s
        simp only at g1 g3
        have HY := Lib.hid (HW.out.alloc HW.out.size (.cells #[.string s1, .string s2] 31 (0, 0)))
        have H2r := Lib.hid (H2.out.call HY.out)
        by_cases hp : b.any (eqP (s1, s2)) = true
        · go_wp2_with (go_at_call 43; refine (has48 _ b _ _ _ H2r.out hz).mono ?_; rintro e w' ⟨rfl, hb'⟩; rw [hp]; have HB' := Lib.hid hb'; clear hb')
          go_roundw
          case rel => exact ⟨k + 1, by omega, by go_num, by rw [HN.out, HA.out, Bool.true_and]; exact hp, HY.out.trans (HB'.out.mono HY.out.size)⟩
          case measure => simp [intOf]; omega
        · have hp : b.any (eqP (s1, s2)) = false := by simpa using hp
          have E2 : Hid (smB a b = false) := by show _ = _; rw [E1.out]; exact HQ.out hp
          go_wp2_with (go_at_call 43; refine (has48 _ b _ _ _ H2r.out hz).mono ?_; rintro e w' ⟨rfl, hb'⟩; rw [hp]; have HB' := Lib.hid hb'; clear hb')
          rw [E2.out]
          go_ret
          exact ⟨rfl, HY.out.trans (HB'.out.mono HY.out.size)⟩
      · obtain rfl : k = a.length := by omega
        have E2 : Hid (smB a b = true) := by show _ = _; rw [E1.out, ← HA.out, List.take_length]
        go_wp2
        rw [E2.out]
        go_ret
        exact ⟨rfl, HW.out⟩
  · have c0 : ((a.length : Int) == (b.length : Int)) = false := by simp; omega
    have c1 : ¬ (a.length : Int) = (b.length : Int) := by omega
    have E1 : Hid (smB a b = false) := by show _ = _; rw [E0.out, decide_eq_false hl]; rfl
    go_enter Tryd.func29, Tryd.ntmps29
    go_wp2
    rw [E1.out]
    go_ret
    exact ⟨rfl, Below.refl _ _⟩
end Go.Proofs.YtnnmbpghkflepaaDoor
