/-
  The reference's Compare.
-/
import Derived.Test.YtgiepgbjkkhniaaCmp
namespace Go.Proofs.Ytgiepgbjkkhniaa
open Go.RowKit Go.PlainAid

set_option maxHeartbeats 1000000 in
theorem sign22 (n : Int) (w : World) : Calls Try.prog 31 #[.int .i64 n] w fun e w' => e = .returned (.int .i64 (cI n 0)) ∧ w' = w := by
  rcases cI_cases n 0 with ⟨h, e⟩ | ⟨h, e⟩ | ⟨h, e⟩
  · rw [e]
    clear e
    go_enter Try.func31, Try.ntmps31
    go_wp2
    go_ret
    exact ⟨rfl, rfl⟩
  · rw [e]
    clear e
    subst h
    go_enter Try.func31, Try.ntmps31
    go_wp2
    go_ret
    exact ⟨rfl, rfl⟩
  · rw [e]
    clear e
    have h2 : ¬ n < 0 := by omega
    go_enter Try.func31, Try.ntmps31
    go_wp2
    go_ret
    exact ⟨rfl, rfl⟩
theorem cI_sub (a b : Int) : cI (a - b) 0 = cI a b := by
  have h1 := cI_cases (a - b) 0
  have h2 := cI_cases a b
  omega

set_option maxHeartbeats 3200000 in
theorem refCompare12 (v1 v2 : Value) (a b : List Sg) (w : World) (h1 : Gs w v1 a) (h2 : Gs w v2 b) (hz : a.length ≤ 1000000000) (hz2 : b.length ≤ 1000000000) :
    Calls Try.prog 17 #[v1, v2] w fun e w' => e = .returned (.int .i64 (cP a b)) ∧ ∃ q, w' = w.drewN q := by
  have HP := Lib.hid (cP_is a b)
  rw [← pKf_zero, ← pTf_zero] at HP
  generalize cP a b = V at *
  obtain ⟨A, cap, rfl, _, _, hc⟩ := h1
  obtain ⟨A2, cap2, rfl, _, _, hc2⟩ := h2
  have HC := Lib.hid hc
  have HC2 := Lib.hid hc2
  clear hc hc2
  go_enter Try.func17, Try.ntmps17
  go_wp2_with fail
  go_loopw [5] (fun i wr => ∃ (k : Nat), k ≤ a.length ∧ k ≤ b.length ∧ i = .int .i64 k ∧ Hid (V = if pKf a b k ≠ 0 then pKf a b k else if cI b.length a.length ≠ 0 then cI b.length a.length else pTf a b 0) ∧ Hid (∃ q, wr = w.drewN q)) (fun i _ => a.length - (intOf i).toNat)
  case atStart => exact ⟨0, Nat.zero_le _, Nat.zero_le _, rfl, HP.out, 0, rfl⟩
  case round =>
    obtain ⟨k, hk, hk2, rfl, ht, hw⟩ := hrel
    by_cases hlt : k < a.length ∧ k < b.length
    · obtain ⟨hla, hlb⟩ := hlt
      have d1 : (k : Int) < (a.length : Int) := by omega
      have d2 : (k : Int) < (b.length : Int) := by omega
      have HX := Lib.hid (pKf_next (a := a) (b := b) (k := k) hla hlb)
      obtain ⟨x, o, rfl, hcell, _⟩ := HC.out k hla
      obtain ⟨x2, o2, rfl, hcell2, _⟩ := HC2.out k hlb
      have g1 : wr.cell? ⟨x, o + k * 2, none⟩ = some (.int .i64 (a.getD k default).1) := by rw [drC hw.out]; exact hcell
      have g2 : wr.cell? ⟨x2, o2 + k * 2, none⟩ = some (.int .i64 (b.getD k default).1) := by rw [drC hw.out]; exact hcell2
      clear hcell hcell2
      generalize (a.getD k default).1 = s at *
      generalize (b.getD k default).1 = t at *
      rcases cI_cases s t with ⟨h, e⟩ | ⟨h, e⟩ | ⟨h, e⟩
      · have HN : Hid (V = -1) := by
          have h5 := HX.out
          rw [e, if_pos (by decide)] at h5
          have := ht.out
          rw [h5] at this
          simp at this
          exact this
        clear e HX ht HP
        go_wp2_with fail
        go_quiet (fail)
        go_wp2
        rw [HN.out]
        go_ret
        exact ⟨rfl, drN hw.out _⟩
      · have HN : Hid (V = if pKf a b (k + 1) ≠ 0 then pKf a b (k + 1) else if cI b.length a.length ≠ 0 then cI b.length a.length else pTf a b 0) := by
          have h5 := HX.out
          rw [e, if_neg (by simp)] at h5
          have := ht.out
          rw [h5] at this
          exact this
        have q1 : ¬ s < t := by omega
        have q2 : ¬ t < s := by omega
        clear e HX ht HP h
        go_wp2_with fail
        go_quiet (fail)
        go_wp2_with fail
        go_quiet (fail)
        go_wp2_with fail
        go_roundw
        case rel => exact ⟨k + 1, by omega, by omega, by go_num, HN.out, drN hw.out _⟩
        case measure => simp [intOf]; omega
      · have HN : Hid (V = 1) := by
          have h5 := HX.out
          rw [e, if_pos (by decide)] at h5
          have := ht.out
          rw [h5] at this
          simp at this
          exact this
        have q1 : ¬ s < t := by omega
        clear e HX ht HP
        go_wp2_with fail
        go_quiet (fail)
        go_wp2_with fail
        go_quiet (fail)
        go_wp2
        rw [HN.out]
        go_ret
        exact ⟨rfl, drN (drN hw.out _) _⟩
    · have HN : Hid (V = if cI b.length a.length ≠ 0 then cI b.length a.length else pTf a b 0) := by
        have := ht.out
        rw [pKf_end (by omega), if_neg (by simp)] at this
        exact this
      by_cases hl : a.length = b.length
      · obtain rfl : k = a.length := by omega
        have HN2 : Hid (pTf a b 0 = V) := by
          have := HN.out
          have e := (tcI.zero (b.length : Int) (a.length : Int)).2 (by omega)
          rw [e, if_neg (by simp)] at this
          exact this.symm
        have c0 : ((a.length : Int) == (b.length : Int)) = true := by simp; omega
        have HL := Lib.hid hl
        clear hl ht HP HN hlt
        go_wp2_with fail
        go_loopw [54] (fun i wz => ∃ (k : Nat), k ≤ a.length ∧ i = .int .i64 k ∧ Hid (pTf a b k = V) ∧ Hid (∃ q, wz = w.drewN q)) (fun i _ => a.length - (intOf i).toNat)
        case atStart => exact ⟨0, Nat.zero_le _, rfl, HN2.out, hw.out⟩
        case round =>
          obtain ⟨j, hj, rfl, hu, hv⟩ := hrel
          have hl2 := HL.out
          by_cases hlj : j < a.length
          · have d1 : (j : Int) < (a.length : Int) := by omega
            have d2 : (j : Int) < (b.length : Int) := by omega
            have HX := Lib.hid (pTf_next (a := a) (b := b) (k := j) hlj (by omega))
            obtain ⟨x, o, rfl, _, hcell⟩ := HC.out j hlj
            obtain ⟨x2, o2, rfl, _, hcell2⟩ := HC2.out j (by omega)
            have g1 : wr.cell? ⟨x, o + j * 2 + 1, none⟩ = some (.string (a.getD j default).2) := by rw [drC hv.out]; exact hcell
            have g2 : wr.cell? ⟨x2, o2 + j * 2 + 1, none⟩ = some (.string (b.getD j default).2) := by rw [drC hv.out]; exact hcell2
            clear hcell hcell2 hl2
            generalize (a.getD j default).2 = s at *
            generalize (b.getD j default).2 = t at *
            rcases cT_cases s t with ⟨h, e⟩ | ⟨h, h', e⟩ | ⟨h, h', e⟩
            · have HN : Hid (V = -1) := by
                have h5 := HX.out
                rw [e, if_pos (by decide), hu.out] at h5
                exact h5
              clear e HX hu
              go_wp2_with fail
              go_quiet (fail)
              go_wp2
              rw [HN.out]
              go_ret
              exact ⟨rfl, drN hv.out _⟩
            · have HN : Hid (pTf a b (j + 1) = V) := by
                have h5 := HX.out
                rw [e, if_neg (by simp), hu.out] at h5
                exact h5.symm
              clear e HX hu
              go_wp2_with fail
              go_quiet (fail)
              go_wp2_with fail
              go_quiet (fail)
              go_wp2_with fail
              go_roundw
              case rel => exact ⟨j + 1, by omega, by go_num, HN.out, drN hv.out _⟩
              case measure => simp [intOf]; omega
            · have HN : Hid (V = 1) := by
                have h5 := HX.out
                rw [e, if_pos (by decide), hu.out] at h5
                exact h5
              clear e HX hu
              go_wp2_with fail
              go_quiet (fail)
              go_wp2_with fail
              go_quiet (fail)
              go_wp2
              rw [HN.out]
              go_ret
              exact ⟨rfl, drN (drN hv.out _) _⟩
          · obtain rfl : j = a.length := by omega
            have HN : Hid (V = 0) := hu.out.symm.trans (pTf_end (Or.inl (Nat.le_refl _)))
            clear hl2
            go_wp2
            rw [HN.out]
            go_ret
            exact ⟨rfl, hv.out⟩
      · have HN2 : Hid (V = cI ((b.length : Int) - (a.length : Int)) 0) := by
          have := HN.out
          have e : ¬ cI (b.length : Int) (a.length : Int) = 0 := fun h => by have := (tcI.zero _ _).1 h; omega
          rw [if_pos e] at this
          show _ = _
          rw [cI_sub]
          exact this
        have c0 : ((a.length : Int) == (b.length : Int)) = false := by simp; omega
        have hxx : ¬ (k : Int) < (a.length : Int) ∨ ((k : Int) < (a.length : Int) ∧ ¬ (k : Int) < (b.length : Int)) := by omega
        clear ht HP HN hl
        rcases hxx with e0 | ⟨e0, e1⟩
        all_goals
          go_wp2_with (first | (go_at_call 31; refine (sign22 _ _).mono ?_; rintro e w2 ⟨rfl, hw2⟩; subst hw2))
          rw [HN2.out]
          go_ret
          exact ⟨rfl, hw.out⟩
end Go.Proofs.Ytgiepgbjkkhniaa
