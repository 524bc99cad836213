/-
  pattern.isText, mayStand, isTwice, Right.
-/
import Derived.Test.YtnnmbpghkflepaaGreatDoorPat
import Derived.Test.YtnnmbpghkflepaaGreatDoorInv
namespace Go.Proofs.YtnnmbpghkflepaaGreatDoor
open Go.RowKit Go.PlainAid
set_option maxRecDepth 100000

theorem lc_next (s : ByteArray) (k : Nat) (h : k < s.size) : ((bs s).take (k + 1)).all lc = (((bs s).take k).all lc && lc (bt s k)) := by
  rw [← bs_at]
  have := all_next lc (bs s) k (by rw [bs_len]; exact h)
  exact this
theorem lc_not (s : ByteArray) (k : Nat) (h : k < s.size) (hf : lc (bt s k) = false) : (bs s).all lc = false := by
  rw [← bs_at] at hf
  exact all_not lc (bs s) k (by rw [bs_len]; exact h) hf

set_option maxHeartbeats 1600000 in
theorem isText37 (s : ByteArray) (w : World) : Calls Tryz.prog 51 #[.string s] w fun e w' => e = .returned (.bool (txB s)) ∧ w' = w := by
  have gb := get_bt s
  by_cases h1 : 1 ≤ s.size
  · by_cases h2 : s.size ≤ 16
    · have c1 : ¬ (s.size : Int) < 1 := by omega
      have c2 : ¬ (16 : Int) < (s.size : Int) := by omega
      have E0 : Hid (txB s = (bs s).all lc) := by show _ = _; rw [txB, decide_eq_true ⟨h1, h2⟩, Bool.true_and]
      go_enter Tryz.func51, Tryz.ntmps51
      go_wp2_with fail
      go_loopw [15] (fun i wr => ∃ k : Nat, k ≤ s.size ∧ i = .int .i64 k ∧ ((bs s).take k).all lc = true ∧ wr = w) (fun i _ => s.size - (intOf i).toNat)
      case atStart => exact ⟨0, Nat.zero_le _, rfl, by simp, rfl⟩
      case round =>
        obtain ⟨k, hk, rfl, hall, rfl⟩ := hrel
        have HA := Lib.hid hall
        clear hall
        by_cases hlt : k < s.size
        · have c0 : (k : Int) < (s.size : Int) := by omega
          have HL := Lib.hid (lc_next s k hlt)
          have HN := Lib.hid (lc_not s k hlt)
          by_cases hp : lc (bt s k) = true
          · have HP := Lib.hid hp
            have hp : (97 ≤ bt s k ∧ bt s k ≤ 122) ∨ (48 ≤ bt s k ∧ bt s k ≤ 57) := of_decide_eq_true hp
            rcases hp with ⟨p1, p2⟩ | ⟨p1, p2⟩
            all_goals
              go_wp2_with fail
              all_goals
                go_roundw
                case rel => exact ⟨k + 1, by omega, by go_num, by rw [HL.out, HA.out, HP.out]; rfl, trivial⟩
                case measure => simp [intOf]; omega
          · have hp : lc (bt s k) = false := by simpa using hp
            have E1 := Lib.hid (E0.out.trans (HN.out hp))
            have hp : ¬ ((97 ≤ bt s k ∧ bt s k ≤ 122) ∨ (48 ≤ bt s k ∧ bt s k ≤ 57)) := of_decide_eq_false hp
            have : (bt s k < 48) ∨ (57 < bt s k ∧ bt s k < 97) ∨ (122 < bt s k) := by omega
            clear hp
            rcases this with p1 | ⟨p1, p2⟩ | p1
            all_goals
              go_wp2
              all_goals
                rw [E1.out]
                go_ret
                exact ⟨rfl, rfl⟩
        · obtain rfl : k = s.size := by omega
          have E1 : Hid (txB s = true) := by show _ = _; rw [E0.out, ← HA.out, List.take_of_length_le (by rw [bs_len]; omega)]
          go_wp2
          rw [E1.out]
          go_ret
          exact ⟨rfl, rfl⟩
    · have c1 : ¬ (s.size : Int) < 1 := by omega
      have c2 : (16 : Int) < (s.size : Int) := by omega
      have e : txB s = false := by rw [txB, decide_eq_false (fun h => h2 h.2)]; rfl
      rw [e]
      go_enter Tryz.func51, Tryz.ntmps51
      go_wp2
      go_ret
      exact ⟨rfl, rfl⟩
  · have c1 : (s.size : Int) < 1 := by omega
    have e : txB s = false := by rw [txB, decide_eq_false (fun h => h1 h.1)]; rfl
    rw [e]
    go_enter Tryz.func51, Tryz.ntmps51
    go_wp2
    go_ret
    exact ⟨rfl, rfl⟩

set_option maxHeartbeats 800000 in
theorem mayStand36 (k : Int) (b : Bool) (w : World) : Calls Tryz.prog 50 #[.int .i64 k, .bool b] w fun e w' => e = .returned (.bool (stB k b)) ∧ w' = w := by
  by_cases h0 : k = 0
  · subst h0
    have e : stB 0 b = true := rfl
    rw [e]
    go_enter Tryz.func50, Tryz.ntmps50
    go_wp2
    go_ret
    exact ⟨rfl, rfl⟩
  by_cases h1 : k = 1
  · subst h1
    have e : stB 1 b = true := rfl
    rw [e]
    go_enter Tryz.func50, Tryz.ntmps50
    go_wp2
    go_ret
    exact ⟨rfl, rfl⟩
  by_cases h2 : k = 2
  · subst h2
    have e : stB 2 b = b := rfl
    rw [e]
    go_enter Tryz.func50, Tryz.ntmps50
    go_wp2
    go_ret
    exact ⟨rfl, rfl⟩
  by_cases h3 : k = 3
  · subst h3
    have e : stB 3 b = b := rfl
    rw [e]
    go_enter Tryz.func50, Tryz.ntmps50
    go_wp2
    go_ret
    exact ⟨rfl, rfl⟩
  have e : stB k b = false := by simp [stB, h0, h1, h2, h3]
  have c0 : (k == 0) = false := by simpa using h0
  have c1 : (k == 1) = false := by simpa using h1
  have c2 : (k == 2) = false := by simpa using h2
  have c3 : (k == 3) = false := by simpa using h3
  rw [e]
  go_enter Tryz.func50, Tryz.ntmps50
  go_wp2
  go_ret
  exact ⟨rfl, rfl⟩

set_option maxHeartbeats 800000 in
set_option maxRecDepth 100000 in
/-- the closure that looks for a name -/
theorem look52 (o1 : Int) (o2 : ByteArray) (fb : Nat) (g : Sg) (w : World) (hf : w.heap[fb]? = some (.cells #[.int .i64 g.1, .string g.2] 49 (0, 0))) :
    Calls Tryz.prog 71 #[.agg #[.int .i64 o1, .string o2], .pointer (some ⟨fb, 0, none⟩)] w fun e w' => e = .returned (.bool (twP g (o1, o2))) ∧ Below w.heap.size w w' := by
  have k1 : ∀ o, (w.alloc o).cell? ⟨fb, 1, none⟩ = some (.string g.2) := fun o => (blk2 (blk_alloc hf o)).2.1
  clear hf
  by_cases h1 : o1 = 0
  · subst h1
    have e : twP g (0, o2) = false := decide_eq_false (fun h => h.1 rfl)
    rw [e]
    go_enter Tryz.func71, Tryz.ntmps71
    go_wp2
    go_ret
    exact ⟨rfl, (Below.refl _ _).alloc (Nat.le_refl _) _⟩
  · have c1 : (o1 == 0) = false := by simpa using h1
    have e : twP g (o1, o2) = (o1 != 0 && o2.toList == g.2.toList) := by
      rw [bs_eq, twP]
      simp [h1]
    rw [e]
    go_enter Tryz.func71, Tryz.ntmps71
    go_wp2
    go_ret
    exact ⟨rfl, (Below.refl _ _).alloc (Nat.le_refl _) _⟩

theorem any_next {α : Type} [Inhabited α] (f : α → Bool) (l : List α) (k : Nat) (h : k < l.length) : (l.take (k + 1)).any f = ((l.take k).any f || f (l.getD k default)) := by
  have e : l.take (k + 1) = l.take k ++ [l.getD k default] := by
    rw [List.take_add_one]
    simp only [List.getD, List.getElem?_eq_getElem h, Option.toList_some, Option.getD_some]
  rw [e, List.any_append]
  simp
theorem any_at {α : Type} [Inhabited α] (f : α → Bool) (l : List α) (k : Nat) (h : k < l.length) (hf : f (l.getD k default) = true) : l.any f = true := by
  rw [List.any_eq_true]
  exact ⟨_, getD_mem l k h, hf⟩

set_option maxHeartbeats 1600000 in
theorem idx62 (v : Value) (l : List Sg) (g : Sg) (fb : Nat) (w : World) (h : Gs w v l) (hz : l.length ≤ 1000000000) (hf : w.heap[fb]? = some (.cells #[.int .i64 g.1, .string g.2] 49 (0, 0))) :
    Calls Tryz.prog 84 #[v, .func (.func 71) #[] #[.pointer (some ⟨fb, 0, none⟩)]] w fun e w' => ∃ r : Int, e = .returned (.int .i64 r) ∧ (decide (0 ≤ r) = l.any (twP g)) ∧ Below w.heap.size w w' := by
  obtain ⟨A, cap, rfl, _, _, hc⟩ := h
  have HC := Lib.hid hc
  have HF := Lib.hid hf
  clear hc hf
  go_enter Tryz.func84, Tryz.ntmps84
  go_wp2_with fail
  go_loopw [8] (fun i wr => ∃ (k : Nat), k ≤ l.length ∧ i = .int .i64 k ∧ (l.take k).any (twP g) = false ∧ Below w.heap.size w wr) (fun i _ => l.length - (intOf i).toNat)
  case atStart => exact ⟨0, Nat.zero_le _, rfl, by simp, Below.refl _ _⟩
  case round =>
    obtain ⟨k, hk, rfl, ht, hbw⟩ := hrel
    have HT := Lib.hid ht
    have HW := Lib.hid hbw
    clear ht hbw
    by_cases hlt : k < l.length
    · have d0 : (k : Int) < (l.length : Int) := by omega
      obtain ⟨x, o, rfl, hcell, hcelb⟩ := HC.out k hlt
      have g1 : wr.cell? ⟨x, o + k * 2, none⟩ = some (.int .i64 (l.getD k default).1) := by rw [HW.out.cell (World.block_lt_of_cell? _ _ hcell)]; exact hcell
      have g3 : wr.cell? ⟨x, o + k * 2 + 1, none⟩ = some (.string (l.getD k default).2) := by rw [HW.out.cell (World.block_lt_of_cell? _ _ hcelb)]; exact hcelb
      have HN := Lib.hid (any_next (twP g) l k hlt)
      have HY := Lib.hid (any_at (twP g) l k hlt)
      have HF2 := Lib.hid ((HW.out.block fb (blk_lt HF.out)).trans HF.out)
      clear hcell hcelb
      generalize l.getD k default = s at *
      obtain ⟨s1, s2⟩ := s
      simp only at g1 g3
      by_cases hp : twP g (s1, s2) = true
      · go_wp2_with (go_at_call 71; refine (look52 _ _ _ g _ HF2.out).mono ?_; rintro e w' ⟨rfl, hb'⟩; rw [hp]; have HB' := Lib.hid hb'; clear hb')
        go_ret
        exact ⟨_, rfl, by rw [HY.out hp]; exact decide_eq_true (by omega), HW.out.trans (HB'.out.mono HW.out.size)⟩
      · have hp : twP g (s1, s2) = false := by simpa using hp
        go_wp2_with (go_at_call 71; refine (look52 _ _ _ g _ HF2.out).mono ?_; rintro e w' ⟨rfl, hb'⟩; rw [hp]; have HB' := Lib.hid hb'; clear hb')
        go_roundw
        case rel => exact ⟨k + 1, by omega, by go_num, by rw [HN.out, HT.out, hp]; rfl, HW.out.trans (HB'.out.mono HW.out.size)⟩
        case measure => simp [intOf]; omega
    · obtain rfl : k = l.length := by omega
      have E0 : Hid (l.any (twP g) = false) := by show _ = _; rw [← HT.out, List.take_length]
      go_wp2
      go_ret
      exact ⟨_, rfl, by rw [E0.out]; rfl, HW.out⟩

set_option maxHeartbeats 800000 in
theorem has51 (v : Value) (l : List Sg) (g : Sg) (fb : Nat) (w : World) (h : Gs w v l) (hz : l.length ≤ 1000000000) (hf : w.heap[fb]? = some (.cells #[.int .i64 g.1, .string g.2] 49 (0, 0))) :
    Calls Tryz.prog 70 #[v, .func (.func 71) #[] #[.pointer (some ⟨fb, 0, none⟩)]] w fun e w' => e = .returned (.bool (l.any (twP g))) ∧ Below w.heap.size w w' := by
  have H := Lib.hid h
  have HF := Lib.hid hf
  obtain ⟨A, n, c, rfl⟩ := h.shape
  clear h hf
  go_enter Tryz.func70, Tryz.ntmps70
  go_wp2_with fail
  refine (idx62 _ l g fb _ H.out hz HF.out).mono ?_
  rintro e w1 ⟨r, rfl, hr, hb⟩
  have HB := Lib.hid hb
  have HR := Lib.hid hr
  clear hb hr
  go_wp2
  rw [← HR.out]
  go_ret
  exact ⟨rfl, HB.out⟩

set_option maxHeartbeats 800000 in
theorem isTwice38 (g1 : Int) (g2 : ByteArray) (v : Value) (l : List Sg) (w : World) (h : Gs w v l) (hz : l.length ≤ 1000000000) :
    Calls Tryz.prog 52 #[.agg #[.int .i64 g1, .string g2], v] w fun e w' => e = .returned (.bool (twB (g1, g2) l)) ∧ Below w.heap.size w w' := by
  have HB := Lib.hid ((Below.refl w.heap.size w).alloc (Nat.le_refl _) (.cells #[.int .i64 g1, .string g2] 49 (0, 0)))
  have HF := Lib.hid (blk_new w (.cells #[.int .i64 g1, .string g2] 49 (0, 0)))
  have H := Lib.hid (h.call HB.out)
  obtain ⟨A, n, c, rfl⟩ := h.shape
  clear h
  by_cases h0 : g1 = 0
  · subst h0
    have e : twB (0, g2) l = false := by rw [twB, if_pos rfl]
    rw [e]
    go_enter Tryz.func52, Tryz.ntmps52
    go_wp2
    go_ret
    exact ⟨rfl, HB.out⟩
  · have c0 : (g1 == 0) = false := by simpa using h0
    have e : twB (g1, g2) l = l.any (twP (g1, g2)) := by rw [twB, if_neg h0]
    rw [e]
    go_enter Tryz.func52, Tryz.ntmps52
    go_wp2_with fail
    refine (has51 _ l (g1, g2) _ _ H.out hz HF.out).mono ?_
    rintro e w1 ⟨rfl, hb⟩
    have HB1 := Lib.hid (HB.out.trans (hb.mono HB.out.size))
    clear hb
    go_wp2
    go_ret
    exact ⟨rfl, HB1.out⟩

theorem Gs.take {w : World} {A : Option Addr} {n c : Nat} {l : List Sg} (h : Gs w (.slice A n c) l) (k : Nat) (hk : k ≤ l.length) : Gs w (.slice A k c) (l.take k) := by
  obtain ⟨A', cap, e, h1, h2, h3⟩ := h
  simp only [Value.slice.injEq] at e
  obtain ⟨rfl, _, rfl⟩ := e
  have hl : (l.take k).length = k := by simp; omega
  refine ⟨A, c, by rw [hl], by omega, h2, fun i hi => ?_⟩
  obtain ⟨b, o, ha, h4, h5⟩ := h3 i (by omega)
  have e : (l.take k).getD i default = l.getD i default := by
    simp only [List.getD]
    rw [List.getElem?_take_of_lt (by omega)]
  rw [e]
  exact ⟨b, o, ha, h4, h5⟩

end Go.Proofs.YtnnmbpghkflepaaGreatDoor
