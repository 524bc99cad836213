/-
  route's isName, and Named: slices.IndexFunc over records with its closure.
-/
import Derived.Test.YtnnmbpghkflepaaGreatDoorRec
import Derived.Test.YtnnmbpghkflepaaGreatDoorRgt
namespace Go.Proofs.YtnnmbpghkflepaaGreatDoor
open Go.RowKit Go.PlainAid
set_option maxRecDepth 100000

set_option maxHeartbeats 1600000 in
theorem isName33 (s : ByteArray) (w : World) : Calls Tryz.prog 33 #[.string s] w fun e w' => e = .returned (.bool (txB s)) ∧ w' = w := by
  have gb := get_bt s
  by_cases h1 : 1 ≤ s.size
  · by_cases h2 : s.size ≤ 16
    · have c1 : ¬ (s.size : Int) < 1 := by omega
      have c2 : ¬ (16 : Int) < (s.size : Int) := by omega
      have E0 : Hid (txB s = (bs s).all lc) := by show _ = _; rw [txB, decide_eq_true ⟨h1, h2⟩, Bool.true_and]
      go_enter Tryz.func33, Tryz.ntmps33
      go_wp2_with fail
      go_loopw [15] (fun i wr => ∃ k : Nat, k ≤ s.size ∧ i = .int .i64 k ∧ ((bs s).take k).all lc = true ∧ wr = w) (fun i _ => s.size - (intOf i).toNat)
      case atStart => exact ⟨0, Nat.zero_le _, rfl, by simp, rfl⟩
      case round =>
        obtain ⟨k, hk, rfl, hall, rfl⟩ := hrel
        have HA := Lib.hid hall
        clear hall
        by_cases hlt : k < s.size
        · have c0 : (k : Int) < (s.size : Int) := by omega
          have HL := Lib.hid (lc_next s k hlt)
          have HN := Lib.hid (lc_not s k hlt)
          by_cases hp : lc (bt s k) = true
          · have HP := Lib.hid hp
            have hp : (97 ≤ bt s k ∧ bt s k ≤ 122) ∨ (48 ≤ bt s k ∧ bt s k ≤ 57) := of_decide_eq_true hp
            rcases hp with ⟨p1, p2⟩ | ⟨p1, p2⟩
            all_goals
              go_wp2_with fail
              all_goals
                go_roundw
                case rel => exact ⟨k + 1, by omega, by go_num, by rw [HL.out, HA.out, HP.out]; rfl, trivial⟩
                case measure => simp [intOf]; omega
          · have hp : lc (bt s k) = false := by simpa using hp
            have E1 := Lib.hid (E0.out.trans (HN.out hp))
            have hp : ¬ ((97 ≤ bt s k ∧ bt s k ≤ 122) ∨ (48 ≤ bt s k ∧ bt s k ≤ 57)) := of_decide_eq_false hp
            have : (bt s k < 48) ∨ (57 < bt s k ∧ bt s k < 97) ∨ (122 < bt s k) := by omega
            clear hp
            rcases this with p1 | ⟨p1, p2⟩ | p1
            all_goals
              go_wp2
              all_goals
                rw [E1.out]
                go_ret
                exact ⟨rfl, rfl⟩
        · obtain rfl : k = s.size := by omega
          have E1 : Hid (txB s = true) := by show _ = _; rw [E0.out, ← HA.out, List.take_of_length_le (by rw [bs_len]; omega)]
          go_wp2
          rw [E1.out]
          go_ret
          exact ⟨rfl, rfl⟩
    · have c1 : ¬ (s.size : Int) < 1 := by omega
      have c2 : (16 : Int) < (s.size : Int) := by omega
      have e : txB s = false := by rw [txB, decide_eq_false (fun h => h2 h.2)]; rfl
      rw [e]
      go_enter Tryz.func33, Tryz.ntmps33
      go_wp2
      go_ret
      exact ⟨rfl, rfl⟩
  · have c1 : (s.size : Int) < 1 := by omega
    have e : txB s = false := by rw [txB, decide_eq_false (fun h => h1 h.1)]; rfl
    rw [e]
    go_enter Tryz.func33, Tryz.ntmps33
    go_wp2
    go_ret
    exact ⟨rfl, rfl⟩


/-- the place of the first record of that name, -1 of none -/
def nmI (l : List Rc) (s : ByteArray) : Int := if l.findIdx (fun r => decide (r.n = s)) < l.length then (l.findIdx (fun r => decide (r.n = s)) : Int) else -1
theorem nm_at {l : List Rc} {s : ByteArray} {k : Nat} (hk : k < l.length) (h : ∀ j, j < k → (l.getD j default).n ≠ s) (he : (l.getD k default).n = s) : nmI l s = k := by
  have e : l.findIdx (fun r => decide (r.n = s)) = k := by
    rw [List.findIdx_eq hk]
    constructor
    · have : l.getD k default = l[k] := by simp [List.getD, hk]
      rw [← this]; exact decide_eq_true he
    · intro j hj
      have : l.getD j default = l[j]'(by omega) := by simp [List.getD, show j < l.length by omega]
      rw [← this]; exact decide_eq_false (h j hj)
  unfold nmI
  rw [e, if_pos hk]
theorem nm_none {l : List Rc} {s : ByteArray} (h : ∀ j, j < l.length → (l.getD j default).n ≠ s) : nmI l s = -1 := by
  have e : l.findIdx (fun r => decide (r.n = s)) = l.length := by
    rw [List.findIdx_eq_length]
    intro r hr
    obtain ⟨j, hj, rfl⟩ := List.getElem_of_mem hr
    have := h j hj
    have e : l.getD j default = l[j] := by simp [List.getD, hj]
    rw [e] at this
    simp [this]
  unfold nmI
  rw [e, if_neg (by omega)]

set_option maxHeartbeats 1600000 in
theorem look38 (r : Rc) (fb : Nat) (s : ByteArray) (w : World) (hf : w.heap[fb]? = some (.cells #[.string s] 9 (0, 0))) :
    Calls Tryz.prog 38 #[.agg #[.string r.n, .int .i64 r.p, r.u, .int .i64 r.c, .bool r.k, .int .i64 r.rk, .int .i64 r.rf, .string r.rt], .pointer (some ⟨fb, 0, none⟩)] w fun e w' => e = .returned (.bool (decide (r.n = s))) ∧ Below w.heap.size w w' := by
  have k1 : ∀ o, (w.alloc o).cell? ⟨fb, 0, none⟩ = some (.string s) := fun o => by rw [blk_cell (blk_alloc hf o)]; rfl
  clear hf
  rw [← bs_eq]
  go_enter Tryz.func38, Tryz.ntmps38
  go_wp2
  go_ret
  exact ⟨rfl, (Below.refl _ _).alloc (Nat.le_refl _) _⟩

set_option maxHeartbeats 3200000 in
theorem idx37 (v : Value) (l : List Rc) (s : ByteArray) (fb : Nat) (w : World) (h : Rs w v l) (hz : l.length ≤ 1000000000) (hf : w.heap[fb]? = some (.cells #[.string s] 9 (0, 0))) :
    Calls Tryz.prog 37 #[v, .func (.func 38) #[] #[.pointer (some ⟨fb, 0, none⟩)]] w fun e w' => e = .returned (.int .i64 (nmI l s)) ∧ Below w.heap.size w w' := by
  have HS := Lib.hid h
  obtain ⟨A, cap, rfl⟩ := h.len
  have HF := Lib.hid hf
  clear h hf
  go_enter Tryz.func37, Tryz.ntmps37
  go_wp2_with fail
  go_loopw [8] (fun i wr => ∃ (k : Nat), k ≤ l.length ∧ i = .int .i64 k ∧ (∀ j, j < k → (l.getD j default).n ≠ s) ∧ Below w.heap.size w wr) (fun i _ => l.length - (intOf i).toNat)
  case atStart => exact ⟨0, Nat.zero_le _, rfl, fun j hj => by omega, Below.refl _ _⟩
  case round =>
    obtain ⟨k, hk, rfl, ht, hbw⟩ := hrel
    have HT := Lib.hid ht
    have HW := Lib.hid hbw
    clear ht hbw
    by_cases hlt : k < l.length
    · have d0 : (k : Int) < (l.length : Int) := by omega
      obtain ⟨x, o, rfl, hat, -⟩ := (HS.out.call HW.out).at k hlt
      obtain ⟨g0, g1, g2, g3, g4, g5, g6, g7⟩ := hat
      have HF2 := Lib.hid ((HW.out.block fb (blk_lt HF.out)).trans HF.out)
      have HN := Lib.hid (nm_at (s := s) hlt HT.out)
      have HE : Hid ((l.getD k default).n ≠ s → ∀ j, j < k + 1 → (l.getD j default).n ≠ s) := fun hn j hj => by
        by_cases e : j = k
        · rw [e]; exact hn
        · exact HT.out j (by omega)
      generalize l.getD k default = r at *
      by_cases hp : r.n = s
      · have hd : decide (r.n = s) = true := decide_eq_true hp
        have HP := Lib.hid hp
        clear hp
        go_wp2_with (go_at_call 38; refine (look38 r _ s _ HF2.out).mono ?_; rintro e w' ⟨rfl, hb'⟩; rw [hd]; have HB' := Lib.hid hb'; clear hb')
        rw [HN.out HP.out]
        go_ret
        exact ⟨rfl, HW.out.trans (HB'.out.mono HW.out.size)⟩
      · have hd : decide (r.n = s) = false := decide_eq_false hp
        have HP : Hid (r.n ≠ s) := hp
        clear hp
        go_wp2_with (go_at_call 38; refine (look38 r _ s _ HF2.out).mono ?_; rintro e w' ⟨rfl, hb'⟩; rw [hd]; have HB' := Lib.hid hb'; clear hb')
        go_roundw
        case rel => exact ⟨k + 1, by omega, by go_num, HE.out HP.out, HW.out.trans (HB'.out.mono HW.out.size)⟩
        case measure => simp [intOf]; omega
    · obtain rfl : k = l.length := by omega
      have HN := Lib.hid (nm_none HT.out)
      go_wp2
      rw [HN.out]
      go_ret
      exact ⟨rfl, HW.out⟩
set_option maxHeartbeats 1600000 in
theorem named14 (v : Value) (l : List Rc) (s : ByteArray) (w : World) (h : Rs w v l) (hz : l.length ≤ 1000000000) :
    Calls Tryz.prog 14 #[v, .string s] w fun e w' => e = .returned (.int .i64 (nmI l s)) ∧ Below w.heap.size w w' := by
  have HB := Lib.hid ((Below.refl w.heap.size w).alloc (Nat.le_refl _) (.cells #[.string s] 9 (0, 0)))
  have HI := Lib.hid (idx37 v l s w.heap.size (w.alloc (.cells #[.string s] 9 (0, 0))) (h.call HB.out) hz (blk_new _ _))
  obtain ⟨A, n, c, rfl⟩ := h.shape
  clear h
  go_enter Tryz.func14, Tryz.ntmps14
  go_wp2_with (first | (go_at_call 37; refine HI.out.mono ?_; rintro e w' ⟨rfl, hb'⟩; have HB' := Lib.hid hb'; clear hb'))
  go_ret
  exact ⟨rfl, HB.out.trans (HB'.out.mono HB.out.size)⟩
end Go.Proofs.YtnnmbpghkflepaaGreatDoor
