/-
  A tag: small letters and digits, sixteen bytes at most.
-/
import Derived.Test.YtolklphenllhpaaMdl
namespace Go.Proofs.Ytolklphenllhpaa
open Go.RowKit Go.PlainAid
set_option maxRecDepth 100000

theorem tc_next (s : ByteArray) (k : Nat) (h : k < s.size) (ha : ((bs s).take k).all tcB = true) (hc : tcB (bt s k) = true) : ((bs s).take (k + 1)).all tcB = true := by
  have h' : k < (bs s).length := by rw [bs_len]; exact h
  rw [List.take_add_one, List.all_append, ha]
  have e : (bs s)[k]? = some (bt s k) := by
    have := bs_at s k
    rw [← this]
    simp [List.getD, h']
  rw [e]
  simpa using hc
theorem tc_stop (s : ByteArray) (k : Nat) (h : k < s.size) (hc : tcB (bt s k) = false) : (bs s).all tcB = false := by
  have h' : k < (bs s).length := by rw [bs_len]; exact h
  rw [List.all_eq_false]
  refine ⟨bt s k, ?_, by rw [hc]; decide⟩
  have := bs_at s k
  rw [← this]
  simp [List.getD, h']
theorem tc_ways (c : Int) : (decide (97 ≤ c) = false ∧ decide (c ≤ 122) = true ∧ decide (48 ≤ c) = false ∧ decide (c ≤ 57) = true ∧ tcB c = false) ∨ (decide (97 ≤ c) = false ∧ decide (c ≤ 122) = true ∧ decide (48 ≤ c) = true ∧ decide (c ≤ 57) = true ∧ tcB c = true) ∨ (decide (97 ≤ c) = false ∧ decide (c ≤ 122) = true ∧ decide (48 ≤ c) = true ∧ decide (c ≤ 57) = false ∧ tcB c = false) ∨ (decide (97 ≤ c) = true ∧ decide (c ≤ 122) = true ∧ decide (48 ≤ c) = true ∧ decide (c ≤ 57) = false ∧ tcB c = true) ∨ (decide (97 ≤ c) = true ∧ decide (c ≤ 122) = false ∧ decide (48 ≤ c) = true ∧ decide (c ≤ 57) = false ∧ tcB c = false) := by
  unfold tcB
  by_cases h1 : 97 ≤ c <;> by_cases h2 : c ≤ 122 <;> by_cases h3 : 48 ≤ c <;> by_cases h4 : c ≤ 57 <;> simp [h1, h2, h3, h4] <;> omega

theorem belowN {B : Nat} {w w' : World} (h : Below B w w') (q : Nat) : Below B w (w'.drewN q) := ⟨h.os, h.tape, h.output, h.size, h.block⟩
set_option maxHeartbeats 12800000 in
theorem rightTag29 (tag : Tx) (w : World) (hz : tag.size ≤ 1000000) : Calls Try.prog 29 #[.string tag] w fun e w' => e = .returned (.bool (tagB tag)) ∧ Below w.heap.size w w' := by
  have gb := get_bt tag
  by_cases hl : tag.size ≤ 16
  · have c0 : ¬ (16 : Int) < (tag.size : Int) := by omega
    have HL := Lib.hid hl
    clear hl
    go_enter Try.func29, Try.ntmps29
    go_wp2_with fail
    clear c0
    go_loopw [11] (fun p wr => ∃ (j : Nat), j ≤ tag.size ∧ p = .int .i64 j ∧ Hid (((bs tag).take j).all tcB = true) ∧ Hid (Below w.heap.size w wr)) (fun p _ => tag.size - (intOf p).toNat)
    case atStart => exact ⟨0, Nat.zero_le _, rfl, by simp [Hid], Below.refl _ _⟩
    case round =>
      obtain ⟨j, hj, rfl, HJ, BW⟩ := hrel
      by_cases hlt : j < tag.size
      · have d0 : (j : Int) < (tag.size : Int) := by omega
        have HN := Lib.hid (tc_next tag j hlt HJ.out)
        have HS := Lib.hid (tc_stop tag j hlt)
        have hw := tc_ways (bt tag j)
        have gj := get_bt tag j
        clear gb
        generalize bt tag j = c at *
        rcases hw with ⟨t1, t2, t3, t4, ht⟩ | ⟨t1, t2, t3, t4, ht⟩ | ⟨t1, t2, t3, t4, ht⟩ | ⟨t1, t2, t3, t4, ht⟩ | ⟨t1, t2, t3, t4, ht⟩
        · have E : Hid (tagB tag = false) := by unfold Hid tagB; rw [HS.out ht, Bool.and_false]
          clear HN HS ht
          go_wp2_with fail
          go_quiet (fail)
          go_wp2
          go_ret
          exact ⟨by rw [E.out]; rfl, belowN BW.out _⟩
        · have HM := Lib.hid (HN.out ht)
          clear HN HS ht
          go_wp2_with fail
          go_quiet (fail)
          go_wp2_with fail
          go_roundw
          case rel => exact ⟨j + 1, by omega, by go_num, HM, belowN BW.out _⟩
          case measure => simp [intOf]; omega
        · have E : Hid (tagB tag = false) := by unfold Hid tagB; rw [HS.out ht, Bool.and_false]
          clear HN HS ht
          go_wp2_with fail
          go_quiet (fail)
          go_wp2
          go_ret
          exact ⟨by rw [E.out]; rfl, belowN BW.out _⟩
        · have HM := Lib.hid (HN.out ht)
          clear HN HS ht
          go_wp2_with fail
          go_quiet (fail)
          go_wp2_with fail
          go_roundw
          case rel => exact ⟨j + 1, by omega, by go_num, HM, belowN BW.out _⟩
          case measure => simp [intOf]; omega
        · have E : Hid (tagB tag = false) := by unfold Hid tagB; rw [HS.out ht, Bool.and_false]
          clear HN HS ht
          go_wp2_with fail
          go_quiet (fail)
          go_wp2
          go_ret
          exact ⟨by rw [E.out]; rfl, belowN BW.out _⟩
      · obtain rfl : j = tag.size := by omega
        have E : Hid (tagB tag = true) := by
          have h := HJ.out
          rw [List.take_of_length_le (by rw [bs_len]; omega)] at h
          unfold tagB
          rw [h, decide_eq_true HL.out]
          rfl
        go_wp2
        go_ret
        exact ⟨by rw [E.out]; rfl, BW.out⟩
  · have c0 : (16 : Int) < (tag.size : Int) := by omega
    have E : Hid (tagB tag = false) := by unfold Hid tagB; rw [decide_eq_false hl]; rfl
    clear hl
    go_enter Try.func29, Try.ntmps29
    go_wp2
    go_ret
    exact ⟨by rw [E.out]; rfl, Below.refl _ _⟩
end Go.Proofs.Ytolklphenllhpaa
