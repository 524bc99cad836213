/-
  The walk of the law ScrollSteps: for any int and any list of ints it returns true, and the world stays as it is.
-/
import Derived.Test.YtoijlkhgbbgogaaRuns
import Derived.Test.YtoijlkhgbbgogaaEighth
namespace Go.Proofs.Ytoijlkhgbbgogaa
open Go.RowKit
attribute [local irreducible] Fl.e8

/-- the word with its sign set -/
def ngN (n : Nat) : Nat := Fl.SG + n
theorem uOff (n : Nat) (h : n ≤ Fl.TOP) : U64 (n : Int) := by
  unfold U64; unfold Fl.TOP at h; omega
theorem uNg (n : Nat) (h : n ≤ Fl.TOP) : U64 (ngN n : Int) := by
  unfold U64 ngN Fl.SG; unfold Fl.TOP at h; omega
theorem adPos (a c : Nat) (h : a + c ≤ 3000) : adI (Fl.e8 a : Nat) (Fl.e8 c : Nat) = (Fl.e8 (a + c) : Nat) := by
  unfold adI; rw [Int.toNat_natCast, Int.toNat_natCast, Fl.ad_e8 a c h]
theorem adNeg (a c : Nat) (hc : c ≤ a) (h : a ≤ 3000) : adI (Fl.e8 a : Nat) (ngN (Fl.e8 c) : Nat) = (Fl.e8 (a - c) : Nat) := by
  have := Fl.ad_n8 (a - c) c (by omega)
  rw [Nat.sub_add_cancel hc] at this
  unfold adI ngN; rw [Int.toNat_natCast, Int.toNat_natCast, this]
theorem cpGt (a b : Nat) (h : a < b) (hb : b ≤ 3000) : cpI (Fl.e8 b : Nat) (Fl.e8 a : Nat) = 1 := by
  have := Fl.e8_lt a b h hb
  unfold cpI cpN; rw [Int.toNat_natCast, Int.toNat_natCast, Fl.cl_of_le _ (Fl.e8_le b hb), Fl.cl_of_le _ (Fl.e8_le a (by omega)), if_neg (by omega), if_pos this]
theorem cpLt (a b : Nat) (h : a < b) (hb : b ≤ 3000) : cpI (Fl.e8 a : Nat) (Fl.e8 b : Nat) = -1 := by
  have := Fl.e8_lt a b h hb
  unfold cpI cpN; rw [Int.toNat_natCast, Int.toNat_natCast, Fl.cl_of_le _ (Fl.e8_le b hb), Fl.cl_of_le _ (Fl.e8_le a (by omega)), if_pos this]
theorem cpSame (a : Int) : cpI a a = 0 := by
  unfold cpI cpN; rw [if_neg (by omega), if_neg (by omega)]
theorem ret_i64 {a b : Int} (h : a = b) : Value.int .i64 a = .int .i64 b := by rw [h]
theorem clSame (a : Nat) (h : a ≤ 3000) : clI (Fl.e8 a : Nat) = (Fl.e8 a : Nat) := by
  unfold clI; rw [Int.toNat_natCast, Fl.cl_of_le _ (Fl.e8_le a h)]

set_option maxHeartbeats 2000000 in
set_option maxRecDepth 100000 in
theorem steps_any (first : Int) (b off len cap : Nat) (zs : List Int) (w : World) (hz : len ≤ zs.length)
    (hc : ∀ j, j < zs.length → w.cell? ⟨b, off + j, none⟩ = some (.int .i64 (zs.getD j 0))) :
    Calls Try.prog 6 #[.int .i64 first, .slice (some ⟨b, off, none⟩) len cap] w fun e w' => e = .returned (.bool true) ∧ w = w' := by
  go_enter Try.func6, Try.ntmps6
  go_wp2_with fail
  refine (within_any _ _ _ _ (by omega) (by omega) (by omega)).mono ?_
  rintro e w' ⟨⟨s', s1, s2, rfl⟩, rfl⟩
  obtain ⟨s, rfl⟩ := Int.eq_ofNat_of_zero_le (a := s') (by omega)
  have q0 := fun (w : World) t => run_float_arith (P := Try.prog) w .quo t .f64 _ _ _ (Fl.quo8 s (by omega))
  go_wp2
  clear q0
  go_loop [5, 6, 7] (fun at_ x i => ∃ k p : Nat, k ≤ 20 ∧ i = .int .i64 k ∧ 500 ≤ p + 25 * k ∧ p ≤ 1000 + 25 * k ∧ at_ = .int .i64 p ∧ x = .int .u64 (Fl.e8 p : Nat)) (fun _ _ i => 20 - (intOf i).toNat)
  case atStart => exact ⟨0, s, by omega, rfl, by omega, by omega, rfl, rfl⟩
  case round =>
    obtain ⟨k, p, hk, rfl, p1, p2, rfl, rfl⟩ := hrel
    have u0 := uOff (Fl.e8 p) (Fl.e8_le _ (by omega))
    by_cases h1 : k < len ∧ k < 20
    · obtain ⟨h1, h2⟩ := h1
      have h2' : (k : Int) < 20 := by omega
      have hcell := hc k (by omega)
      go_wp2_with fail
      refine (within_any _ _ _ _ (by omega) (by omega) (by omega)).mono ?_
      rintro e w' ⟨⟨n, n1, n2, rfl⟩, rfl⟩
      by_cases hn : 0 ≤ n
      · obtain ⟨c, rfl⟩ := Int.eq_ofNat_of_zero_le hn
        have q1 := fun (w : World) t => run_float_arith (P := Try.prog) w .quo t .f64 _ _ _ (Fl.quo8 c (by omega))
        have q2 := adPos p c (by omega)
        have u1 := uOff (Fl.e8 c) (Fl.e8_le _ (by omega))
        have u2 := uOff (Fl.e8 (p + c)) (Fl.e8_le _ (by omega))
        by_cases h0 : 0 < c
        · have q3 := cpGt p (p + c) (by omega) (by omega)
          have h0' : decide ((0 : Int) < c) = true := decide_eq_true (by omega)
          go_wp2_with (first
            | (go_at_call 11; refine (add_any _ _ _ (by with_reducible exact u0) (by with_reducible exact u1)).mono ?_; rintro e w' ⟨rfl, rfl⟩)
            | (go_at_call 13; refine (compare_any _ _ _ (by with_reducible exact u2) (by with_reducible exact u0)).mono ?_; rintro e w' ⟨rfl, rfl⟩))
          go_round
          case rel => exact ⟨k + 1, p + c, by omega, by go_num, by omega, by omega, by go_num, rfl⟩
          case measure => simp [intOf]; omega
        · have q3 : cpI (Fl.e8 (p + c) : Nat) (Fl.e8 p : Nat) = 0 := by
            have : c = 0 := by omega
            rw [this, Nat.add_zero]; exact cpSame _
          have h0' : decide ((0 : Int) < c) = false := decide_eq_false (by omega)
          have h0'' : decide ((c : Int) < 0) = false := decide_eq_false (by omega)
          go_wp2_with (first
            | (go_at_call 11; refine (add_any _ _ _ (by with_reducible exact u0) (by with_reducible exact u1)).mono ?_; rintro e w' ⟨rfl, rfl⟩)
            | (go_at_call 13; refine (compare_any _ _ _ (by with_reducible exact u2) (by with_reducible exact u0)).mono ?_; rintro e w' ⟨rfl, rfl⟩))
          go_round
          case rel => exact ⟨k + 1, p + c, by omega, by go_num, by omega, by omega, by go_num, rfl⟩
          case measure => simp [intOf]; omega
      · obtain ⟨c, hcn⟩ : ∃ c : Nat, n = -(c : Int) := ⟨(-n).toNat, by omega⟩
        have c1 : 1 ≤ c := by omega
        have c2 : c ≤ 25 := by omega
        subst hcn
        have q1 := fun (w : World) t => run_float_arith (P := Try.prog) w .quo t .f64 _ _ (ngN (Fl.e8 c)) (Fl.quo8n c c1 c2)
        have q2 := adNeg p c (by omega) (by omega)
        have u1 := uNg (Fl.e8 c) (Fl.e8_le _ (by omega))
        have u2 := uOff (Fl.e8 (p - c)) (Fl.e8_le _ (by omega))
        have q3 := cpLt (p - c) p (by omega) (by omega)
        have h0' : decide ((0 : Int) < -(c : Int)) = false := decide_eq_false (by omega)
        have h0'' : decide (-(c : Int) < 0) = true := decide_eq_true (by omega)
        go_wp2_with (first
          | (go_at_call 11; refine (add_any _ _ _ (by with_reducible exact u0) (by with_reducible exact u1)).mono ?_; rintro e w' ⟨rfl, rfl⟩)
          | (go_at_call 13; refine (compare_any _ _ _ (by with_reducible exact u2) (by with_reducible exact u0)).mono ?_; rintro e w' ⟨rfl, rfl⟩))
        go_round
        case rel => exact ⟨k + 1, p - c, by omega, by go_num, by omega, by omega, ret_i64 (by omega), rfl⟩
        case measure => simp [intOf]; omega
    · have q1 := fun (w : World) t => run_float_arith (P := Try.prog) w .quo t .f64 _ _ _ (Fl.quo8 p (by omega))
      have q2 := clSame p (by omega)
      by_cases hl : k < len
      · have h2 : ¬ k < 20 := by omega
        have h2' : ¬ (k : Int) < 20 := by omega
        go_wp2_with (first
          | (go_at_call 15; refine (right_any _ _ (by with_reducible exact u0)).mono ?_; rintro e w' ⟨rfl, rfl⟩)
          | (go_at_call 3; refine (runs_any _).mono ?_; rintro e w' ⟨rfl, rfl⟩))
        go_ret
        exact ⟨rfl, rfl⟩
      · go_wp2_with (first
          | (go_at_call 15; refine (right_any _ _ (by with_reducible exact u0)).mono ?_; rintro e w' ⟨rfl, rfl⟩)
          | (go_at_call 3; refine (runs_any _).mono ?_; rintro e w' ⟨rfl, rfl⟩))
        go_ret
        exact ⟨rfl, rfl⟩

set_option maxHeartbeats 2000000 in
set_option maxRecDepth 100000 in
theorem steps_none (first : Int) (a : Option Addr) (cap : Nat) (w : World) :
    Calls Try.prog 6 #[.int .i64 first, .slice a 0 cap] w fun e w' => e = .returned (.bool true) ∧ w = w' := by
  go_enter Try.func6, Try.ntmps6
  go_wp2_with fail
  refine (within_any _ _ _ _ (by omega) (by omega) (by omega)).mono ?_
  rintro e w' ⟨⟨s', s1, s2, rfl⟩, rfl⟩
  obtain ⟨s, rfl⟩ := Int.eq_ofNat_of_zero_le (a := s') (by omega)
  have q0 := fun (w : World) t => run_float_arith (P := Try.prog) w .quo t .f64 _ _ _ (Fl.quo8 s (by omega))
  have u0 := uOff (Fl.e8 s) (Fl.e8_le _ (by omega))
  have q2 := clSame s (by omega)
  go_wp2
  go_loop [5, 6, 7] (fun at_ x i => at_ = .int .i64 s ∧ x = .int .u64 (Fl.e8 s : Nat) ∧ i = .int .i64 (0 : Nat)) (fun _ _ i => 20 - (intOf i).toNat)
  case atStart => exact ⟨rfl, rfl, rfl⟩
  case round =>
    obtain ⟨rfl, rfl, rfl⟩ := hrel
    go_wp2_with (first
      | (go_at_call 15; refine (right_any _ _ (by with_reducible exact u0)).mono ?_; rintro e w' ⟨rfl, rfl⟩)
      | (go_at_call 3; refine (runs_any _).mono ?_; rintro e w' ⟨rfl, rfl⟩))
    go_ret
    exact ⟨rfl, rfl⟩
end Go.Proofs.Ytoijlkhgbbgogaa
