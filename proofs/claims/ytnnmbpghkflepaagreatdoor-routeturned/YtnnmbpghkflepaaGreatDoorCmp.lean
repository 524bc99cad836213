/-
  cmp.Compare at numbers and at texts; rank's Compare; the reference's.
-/
import Derived.Test.YtnnmbpghkflepaaGreatDoorOrd
import Derived.Test.YtnnmbpghkflepaaGreatDoorBase
import Derived.Sort.Walk0
import Derived.Laws.Cover1
import Derived.Deep.QuietTactic
import Derived.BigQuiet
namespace Go.Proofs.YtnnmbpghkflepaaGreatDoor
open Go.RowKit Go.PlainAid
set_option maxRecDepth 100000

theorem nan24 (x : Int) (w : World) : Calls Tryz.prog 82 #[.int .i64 x] w fun e w' => e = .returned (.bool false) ∧ w' = w := by
  go_enter Tryz.func82, Tryz.ntmps82
  go_wp2
  go_ret
  exact ⟨by simp, rfl⟩
theorem nan28 (x : ByteArray) (w : World) : Calls Tryz.prog 108 #[.string x] w fun e w' => e = .returned (.bool false) ∧ w' = w := by
  go_enter Tryz.func108, Tryz.ntmps108
  go_wp2
  go_ret
  exact ⟨by simp, rfl⟩
set_option maxHeartbeats 1000000 in
theorem cmpI18 (x y : Int) (w : World) : Calls Tryz.prog 65 #[.int .i64 x, .int .i64 y] w fun e w' => e = .returned (.int .i64 (cI x y)) ∧ w' = w := by
  go_enter Tryz.func65, Tryz.ntmps65
  go_wp2_with (go_at_call 82; refine (nan24 _ _).mono ?_; rintro e w' ⟨rfl, hw⟩; rw [hw])
  all_goals (go_ret; refine ⟨?_, rfl⟩; unfold cI Lib.compareInt; (repeat' split) <;> first | rfl | (exfalso; omega))
theorem less_is (x y : ByteArray) : Op.bytesLess x.toList y.toList = decide (x.data.toList < y.data.toList) := by
  rw [bytesLess_eq, Lib.toList_data, Lib.toList_data]
theorem cT_cases (x y : ByteArray) : (Op.bytesLess x.toList y.toList = true ∧ cT x y = -1) ∨ (Op.bytesLess x.toList y.toList = false ∧ (x.toList == y.toList) = true ∧ cT x y = 0) ∨ (Op.bytesLess x.toList y.toList = false ∧ (x.toList == y.toList) = false ∧ cT x y = 1) := by
  have e : (x.toList == y.toList) = decide (x.data.toList = y.data.toList) := by
    rw [Lib.toList_data, Lib.toList_data, Bool.eq_iff_iff]
    simp
  rw [less_is, e]
  rcases cL_cases x.data.toList y.data.toList with ⟨h, e⟩ | ⟨h, e⟩ | ⟨h, e⟩
  · exact Or.inl ⟨decide_eq_true h, e⟩
  · right; left
    refine ⟨decide_eq_false ?_, decide_eq_true h, e⟩
    rw [h]; exact List.lt_irrefl _
  · right; right
    refine ⟨decide_eq_false (fun h' => List.lt_irrefl _ (List.lt_trans h h')), decide_eq_false (fun h' => ?_), e⟩
    rw [h'] at h
    exact List.lt_irrefl _ h
set_option maxHeartbeats 1000000 in
theorem cmpT25 (x y : ByteArray) (w : World) : Calls Tryz.prog 98 #[.string x, .string y] w fun e w' => e = .returned (.int .i64 (cT x y)) ∧ w' = w := by
  rcases cT_cases x y with ⟨h1, h2⟩ | ⟨h1, h0, h2⟩ | ⟨h1, h0, h2⟩
  all_goals
    rw [h2]
    clear h2
    go_enter Tryz.func98, Tryz.ntmps98
    go_wp2_with (go_at_call 108; refine (nan28 _ _).mono ?_; rintro e w' ⟨rfl, hw⟩; rw [hw])
    go_ret
    exact ⟨rfl, rfl⟩

theorem drN {w wr : World} (h : ∃ q, wr = w.drewN q) (n : Nat) : ∃ q, wr.drewN n = w.drewN q := by
  obtain ⟨q, rfl⟩ := h
  exact ⟨q + n, World.drewN_drewN _ _ _⟩
theorem drC {w wr : World} (h : ∃ q, wr = w.drewN q) (p : Addr) : wr.cell? p = w.cell? p := by
  obtain ⟨q, rfl⟩ := h
  rfl

theorem drT {a b c : World} (h : ∃ q, b = a.drewN q) (k : ∃ q, c = b.drewN q) : ∃ q, c = a.drewN q := by
  obtain ⟨n, rfl⟩ := k
  exact drN h n
theorem Gs.drN {w w' : World} {v : Value} {l : List Sg} (h : Gs w v l) (hw : ∃ q, w' = w.drewN q) : Gs w' v l := by
  obtain ⟨q, rfl⟩ := hw
  exact h
theorem drB {w w' : World} (h : ∃ q, w' = w.drewN q) (B : Nat) : Below B w w' := by
  obtain ⟨q, rfl⟩ := h
  exact ⟨rfl, rfl, rfl, Nat.le_refl _, fun _ _ => rfl⟩

set_option maxHeartbeats 1600000 in
theorem kinds17 (v1 v2 : Value) (a b : List Sg) (w : World) (h1 : Gs w v1 a) (h2 : Gs w v2 b) (hz : a.length ≤ 1000000000) (_ : b.length ≤ 1000000000) :
    Calls Tryz.prog 80 #[v1, v2] w fun e w' => e = .returned (.int .i64 (pK a b)) ∧ ∃ q, w' = w.drewN q := by
  rw [← pKf_zero]
  obtain ⟨A, cap, rfl, _, _, hc⟩ := h1
  obtain ⟨A2, cap2, rfl, _, _, hc2⟩ := h2
  have HC := Lib.hid hc
  have HC2 := Lib.hid hc2
  clear hc hc2
  obtain ⟨m, hm⟩ : ∃ m : Nat, m = min a.length b.length := ⟨_, rfl⟩
  have hmI : min (a.length : Int) (b.length : Int) = (m : Int) := by omega
  have hm1 : m ≤ a.length := by omega
  have hm2 : m ≤ b.length := by omega
  have HM : Hid (a.length ≤ m ∨ b.length ≤ m) := by show _ ∨ _; omega
  have HV : Hid (pKf a b 0 = pKf a b 0) := rfl
  generalize hV : pKf a b 0 = V at HV ⊢
  have HV0 := Lib.hid hV
  clear hV HV hm
  go_enter Tryz.func80, Tryz.ntmps80
  go_wp2_with fail
  go_loopw [12] (fun i wr => ∃ (k : Nat), k ≤ m ∧ i = .int .i64 k ∧ Hid (pKf a b k = V) ∧ Hid (∃ q, wr = w.drewN q)) (fun i _ => m - (intOf i).toNat)
  case atStart => exact ⟨0, Nat.zero_le _, rfl, HV0.out, 0, rfl⟩
  case round =>
    obtain ⟨k, hk, rfl, ht, hw⟩ := hrel
    by_cases hlt : k < m
    · have d0 : (k : Int) < (m : Int) := by omega
      have d1 : (k : Int) < (a.length : Int) := by omega
      have d2 : (k : Int) < (b.length : Int) := by omega
      have HX := Lib.hid (ht.out.symm.trans (pKf_next (a := a) (b := b) (k := k) (by omega) (by omega)))
      obtain ⟨x, o, rfl, hcell, _⟩ := HC.out k (by omega)
      obtain ⟨x2, o2, rfl, hcell2, _⟩ := HC2.out k (by omega)
      have g1 : wr.cell? ⟨x, o + k * 2, none⟩ = some (.int .i64 (a.getD k default).1) := by obtain ⟨q, rfl⟩ := hw.out; simpa using hcell
      have g2 : wr.cell? ⟨x2, o2 + k * 2, none⟩ = some (.int .i64 (b.getD k default).1) := by obtain ⟨q, rfl⟩ := hw.out; simpa using hcell2
      clear hcell hcell2
      generalize (a.getD k default).1 = s at *
      generalize (b.getD k default).1 = t at *
      have hc := cmpI18 s t
      generalize cI s t = r at *
      by_cases hr : r = 0
      · have HN : Hid (pKf a b (k + 1) = V) := by
          have := HX.out
          rw [if_neg (by simpa using hr)] at this
          exact this.symm
        have q0 : (r == 0) = true := by simp [hr]
        clear hr HX
        go_wp2_with fail
        go_quiet (first | (go_at_call 65; exact Calls.quiet_of_same (hc _)))
        go_wp2_with fail
        go_roundw
        case rel => exact ⟨k + 1, by omega, by go_num, HN.out, drN hw.out _⟩
        case measure => simp [intOf]; omega
      · have HN : Hid (V = r) := by
          have := HX.out
          rw [if_pos hr] at this
          exact this
        have q0 : (r == 0) = false := by simp [hr]
        clear hr HX
        go_wp2_with fail
        go_quiet (first | (go_at_call 65; exact Calls.quiet_of_same (hc _)))
        go_wp2
        rw [HN.out]
        go_ret
        exact ⟨rfl, drN hw.out _⟩
    · obtain rfl : k = m := by omega
      have HN : Hid (V = 0) := ht.out.symm.trans (pKf_end HM.out)
      go_wp2
      rw [HN.out]
      go_ret
      exact ⟨rfl, hw.out⟩
set_option maxHeartbeats 1600000 in
theorem texts19 (v1 v2 : Value) (a b : List Sg) (w : World) (h1 : Gs w v1 a) (h2 : Gs w v2 b) (hz : a.length ≤ 1000000000) (_ : b.length ≤ 1000000000) :
    Calls Tryz.prog 81 #[v1, v2] w fun e w' => e = .returned (.int .i64 (pT a b)) ∧ ∃ q, w' = w.drewN q := by
  rw [← pTf_zero]
  obtain ⟨A, cap, rfl, _, _, hc⟩ := h1
  obtain ⟨A2, cap2, rfl, _, _, hc2⟩ := h2
  have HC := Lib.hid hc
  have HC2 := Lib.hid hc2
  clear hc hc2
  obtain ⟨m, hm⟩ : ∃ m : Nat, m = min a.length b.length := ⟨_, rfl⟩
  have hmI : min (a.length : Int) (b.length : Int) = (m : Int) := by omega
  have hm1 : m ≤ a.length := by omega
  have hm2 : m ≤ b.length := by omega
  have HM : Hid (a.length ≤ m ∨ b.length ≤ m) := by show _ ∨ _; omega
  have HV : Hid (pTf a b 0 = pTf a b 0) := rfl
  generalize hV : pTf a b 0 = V at HV ⊢
  have HV0 := Lib.hid hV
  clear hV HV hm
  go_enter Tryz.func81, Tryz.ntmps81
  go_wp2_with fail
  go_loopw [12] (fun i wr => ∃ (k : Nat), k ≤ m ∧ i = .int .i64 k ∧ Hid (pTf a b k = V) ∧ Hid (∃ q, wr = w.drewN q)) (fun i _ => m - (intOf i).toNat)
  case atStart => exact ⟨0, Nat.zero_le _, rfl, HV0.out, 0, rfl⟩
  case round =>
    obtain ⟨k, hk, rfl, ht, hw⟩ := hrel
    by_cases hlt : k < m
    · have d0 : (k : Int) < (m : Int) := by omega
      have d1 : (k : Int) < (a.length : Int) := by omega
      have d2 : (k : Int) < (b.length : Int) := by omega
      have HX := Lib.hid (ht.out.symm.trans (pTf_next (a := a) (b := b) (k := k) (by omega) (by omega)))
      obtain ⟨x, o, rfl, _, hcell⟩ := HC.out k (by omega)
      obtain ⟨x2, o2, rfl, _, hcell2⟩ := HC2.out k (by omega)
      have g1 : wr.cell? ⟨x, o + k * 2 + 1, none⟩ = some (.string (a.getD k default).2) := by obtain ⟨q, rfl⟩ := hw.out; simpa using hcell
      have g2 : wr.cell? ⟨x2, o2 + k * 2 + 1, none⟩ = some (.string (b.getD k default).2) := by obtain ⟨q, rfl⟩ := hw.out; simpa using hcell2
      clear hcell hcell2
      generalize (a.getD k default).2 = s at *
      generalize (b.getD k default).2 = t at *
      have hc := cmpT25 s t
      generalize cT s t = r at *
      by_cases hr : r = 0
      · have HN : Hid (pTf a b (k + 1) = V) := by
          have := HX.out
          rw [if_neg (by simpa using hr)] at this
          exact this.symm
        have q0 : (r == 0) = true := by simp [hr]
        clear hr HX
        go_wp2_with fail
        go_quiet (first | (go_at_call 98; exact Calls.quiet_of_same (hc _)))
        go_wp2_with fail
        go_roundw
        case rel => exact ⟨k + 1, by omega, by go_num, HN.out, drN hw.out _⟩
        case measure => simp [intOf]; omega
      · have HN : Hid (V = r) := by
          have := HX.out
          rw [if_pos hr] at this
          exact this
        have q0 : (r == 0) = false := by simp [hr]
        clear hr HX
        go_wp2_with fail
        go_quiet (first | (go_at_call 98; exact Calls.quiet_of_same (hc _)))
        go_wp2
        rw [HN.out]
        go_ret
        exact ⟨rfl, drN hw.out _⟩
    · obtain rfl : k = m := by omega
      have HN : Hid (V = 0) := ht.out.symm.trans (pTf_end HM.out)
      go_wp2
      rw [HN.out]
      go_ret
      exact ⟨rfl, hw.out⟩

set_option maxHeartbeats 1600000 in
theorem compare8 (v1 v2 : Value) (a b : List Sg) (w : World) (h1 : Gs w v1 a) (h2 : Gs w v2 b) (hz : a.length ≤ 1000000000) (hz2 : b.length ≤ 1000000000) :
    Calls Tryz.prog 64 #[v1, v2] w fun e w' => e = .returned (.int .i64 (cP a b)) ∧ ∃ q, w' = w.drewN q := by
  have hk := kinds17 v1 v2 a b w h1 h2 hz hz2
  have ht := fun w' hw => texts19 v1 v2 a b w' (Gs.drN h1 hw) (Gs.drN h2 hw) hz hz2
  have HT := Lib.hid ht
  clear ht
  have hc := cmpI18 (b.length : Int) (a.length : Int)
  have HP := Lib.hid (cP_is a b)
  generalize cP a b = V at *
  obtain ⟨A, cap, rfl, _, _, _⟩ := h1
  obtain ⟨A2, cap2, rfl, _, _, _⟩ := h2
  generalize pK a b = x1 at *
  generalize cI (b.length : Int) (a.length : Int) = x2 at *
  generalize pT a b = x3 at *
  by_cases e1 : x1 = 0
  · have q1 : (x1 == 0) = true := by simp [e1]
    by_cases e2 : x2 = 0
    · have q2 : (x2 == 0) = true := by simp [e2]
      have HN : Hid (V = x3) := by have := HP.out; simp [e1, e2] at this; exact this
      clear e1 e2 HP
      go_enter Tryz.func64, Tryz.ntmps64
      go_wp2_with (first | (go_at_call 80; refine hk.mono ?_; rintro e w' ⟨rfl, hw⟩; have HW := Lib.hid hw; clear hw) | (go_at_call 65; refine (hc _).mono ?_; rintro e w2 ⟨rfl, hw2⟩; subst hw2) | (go_at_call 81; refine (HT.out _ HW.out).mono ?_; rintro e w3 ⟨rfl, hw3⟩; have HW3 := Lib.hid hw3; clear hw3))
      rw [HN.out]
      go_ret
      exact ⟨rfl, drT HW.out HW3.out⟩
    · have q2 : (x2 == 0) = false := by simp [e2]
      have HN : Hid (V = x2) := by have := HP.out; simp [e1, e2] at this; exact this
      clear e1 e2 HP
      go_enter Tryz.func64, Tryz.ntmps64
      go_wp2_with (first | (go_at_call 80; refine hk.mono ?_; rintro e w' ⟨rfl, hw⟩; have HW := Lib.hid hw; clear hw) | (go_at_call 65; refine (hc _).mono ?_; rintro e w2 ⟨rfl, hw2⟩; subst hw2))
      rw [HN.out]
      go_ret
      exact ⟨rfl, HW.out⟩
  · have q1 : (x1 == 0) = false := by simp [e1]
    have HN : Hid (V = x1) := by have := HP.out; simp [e1] at this; exact this
    clear e1 HP
    go_enter Tryz.func64, Tryz.ntmps64
    go_wp2_with (first | (go_at_call 80; refine hk.mono ?_; rintro e w' ⟨rfl, hw⟩; have HW := Lib.hid hw; clear hw))
    rw [HN.out]
    go_ret
    exact ⟨rfl, HW.out⟩
end Go.Proofs.YtnnmbpghkflepaaGreatDoor
