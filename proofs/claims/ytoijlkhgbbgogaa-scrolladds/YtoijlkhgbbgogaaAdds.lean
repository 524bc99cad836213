/-
  The walk of the law ScrollAdds: for any two words of 64 bits and any two ints it returns true, and the world stays as it is.
-/
import Derived.Laws.BitsAllLaws
import Derived.Test.YtoijlkhgbbgogaaRuns
import Derived.Test.YtoijlkhgbbgogaaEighth
namespace Go.Proofs.Ytoijlkhgbbgogaa
open Go.RowKit
attribute [local irreducible] Fl.e8

theorem off_ad (a b : Int) : offB (adI a b) = true := by
  have := Fl.ad_le a.toNat b.toNat
  unfold offB adI; unfold Fl.TOP at this; exact decide_eq_true (by omega)
theorem off_cl (a : Int) : offB (clI a) = true := by
  have := Fl.cl_le a.toNat
  unfold offB clI; unfold Fl.TOP at this; exact decide_eq_true (by omega)
theorem ad_z (a : Int) : adI a 0 = clI a := by unfold adI clI; rw [show (0 : Int).toNat = 0 from rfl, Fl.ad_zero]
theorem ad_nz (a : Int) : adI a 9223372036854775808 = clI a := by
  unfold adI clI; rw [show (9223372036854775808 : Int).toNat = Fl.SG from rfl, Fl.ad_nzero]
theorem ad_qn (a : Int) : adI a 9221120237041090561 = clI a := by
  unfold adI clI; rw [show (9221120237041090561 : Int).toNat = 9221120237041090561 from rfl, Fl.ad_nan _ _ (by decide +kernel)]
theorem ad_in (a : Int) : adI a 9218868437227405312 = 4697254411347427328 := by
  unfold adI; rw [show (9218868437227405312 : Int).toNat = Fl.INF from rfl, Fl.ad_inf]; rfl
theorem ad_ni (a : Int) : adI a 18442240474082181120 = 0 := by
  unfold adI; rw [show (18442240474082181120 : Int).toNat = Fl.SG + Fl.INF from rfl, Fl.ad_ninf]; rfl


theorem andNot_63 (b : Int) (hb : U64 b) : bits .andNot .u64 b 9223372036854775808 = ((b.toNat % Fl.SG : Nat) : Int) := by
  have h := hb
  unfold U64 at h
  rw [u64_andNot b _ h.1 h.2 (by omega) (by omega)]
  have : (18446744073709551615 - (9223372036854775808 : Int).toNat) = 2 ^ 63 - 1 := by decide +kernel
  rw [this, Nat.and_two_pow_sub_one_eq_mod]
  have : (2 : Nat) ^ 63 = Fl.SG := by decide +kernel
  rw [this]
/-- the word with its sign set -/
def ng (n : Nat) : Int := ((Fl.SG + n : Nat) : Int)
theorem or_63 (n : Nat) (h : n ≤ Fl.TOP) : bits .or .u64 (n : Int) 9223372036854775808 = ng n := by
  have h2 : n < 2 ^ 63 := by unfold Fl.TOP at h; omega
  rw [u64_or _ _ (by omega) (by omega) (by omega) (by omega)]
  have e : (9223372036854775808 : Int).toNat = 2 ^ 63 := by decide +kernel
  rw [e, Int.toNat_natCast, Nat.or_comm]
  have := Nat.two_pow_add_eq_or_of_lt h2 1
  rw [Nat.mul_one] at this
  rw [← this]
  have : (2 : Nat) ^ 63 = Fl.SG := by decide +kernel
  rw [this]; rfl
theorem U64.ng (n : Nat) (h : n ≤ Fl.TOP) : U64 (ng n) := by
  unfold U64 Ytoijlkhgbbgogaa.ng Fl.SG; unfold Fl.TOP at h; omega
theorem U64.off (n : Nat) (h : n ≤ Fl.TOP) : U64 (n : Int) := by
  unfold U64; unfold Fl.TOP at h; omega
theorem ad_pos (a c : Nat) (h : a + c ≤ 3000) : adI (Fl.e8 a : Nat) (Fl.e8 c : Nat) = (Fl.e8 (a + c) : Nat) := by
  unfold adI; rw [Int.toNat_natCast, Int.toNat_natCast, Fl.ad_e8 a c h]
theorem ad_neg (a c : Nat) (h : a + c ≤ 3000) : adI (Fl.e8 (a + c) : Nat) (ng (Fl.e8 c)) = (Fl.e8 a : Nat) := by
  unfold adI ng; rw [Int.toNat_natCast, Int.toNat_natCast, Fl.ad_n8 a c h]

/-- the ways of what is added -/
theorem by_ways (a b : Int) (hb : U64 b) :
    (∃ z : Int, bits .andNot .u64 b 9223372036854775808 = z ∧ 9218868437227405312 < z ∧ adI a b = clI a) ∨
    (∃ z : Int, bits .andNot .u64 b 9223372036854775808 = z ∧ z ≤ 9218868437227405312 ∧ (b / 9223372036854775808 == 0) = true ∧ clI a ≤ adI a b) ∨
    (∃ z : Int, bits .andNot .u64 b 9223372036854775808 = z ∧ z ≤ 9218868437227405312 ∧ (b / 9223372036854775808 == 0) = false ∧ adI a b ≤ clI a) := by
  have e := andNot_63 b hb
  have hn := hb.nat
  have h := hb
  unfold U64 at h
  have z : Fl.INF = 9218868437227405312 := rfl
  have t : Fl.SG = 9223372036854775808 := rfl
  rcases Fl.ways b.toNat hn with h1 | ⟨h1, h2⟩ | ⟨r, hr, h1⟩ | ⟨r, hr, h1, h2⟩
  · refine .inr (.inl ⟨_, e, ?_, by rw [beq_iff_eq]; omega, ?_⟩)
    · rw [Nat.mod_eq_of_lt (by omega)]; omega
    · have := Fl.ad_up a.toNat b.toNat h1
      unfold clI adI; omega
  · refine .inl ⟨_, e, ?_, ?_⟩
    · rw [Nat.mod_eq_of_lt h2]; omega
    · unfold clI adI; rw [Fl.ad_nan _ _ (by unfold Fl.isN; rw [Nat.mod_eq_of_lt h2]; exact decide_eq_true h1)]
  · refine .inr (.inr ⟨_, e, ?_, by rw [beq_eq_false_iff_ne]; omega, ?_⟩)
    · rw [hr, Nat.add_mod_left, Nat.mod_eq_of_lt (by omega)]; omega
    · have := Fl.ad_down a.toNat r h1
      unfold clI adI; rw [hr]; omega
  · refine .inl ⟨_, e, ?_, ?_⟩
    · rw [hr, Nat.add_mod_left, Nat.mod_eq_of_lt h2]; omega
    · unfold clI adI; rw [hr, Fl.ad_nan _ _ (by unfold Fl.isN; rw [Nat.add_mod_left, Nat.mod_eq_of_lt h2]; exact decide_eq_true h1)]

set_option maxHeartbeats 4000000 in
set_option maxRecDepth 100000 in
theorem adds_any (a b n m : Int) (w : World) (ha : U64 a) (hb : U64 b) : Calls Try.prog 5 #[.int .u64 a, .int .u64 b, .int .i64 n, .int .i64 m] w fun e w' => e = .returned (.bool true) ∧ w = w' := by
  have h0 := off_cl a
  have h1 := off_ad a b
  have h2 := ad_z a
  have h3 := ad_nz a
  have h4 := ad_qn a
  have h5 := ad_in a
  have h6 := ad_ni a
  rcases by_ways a b hb with ⟨z, hz, k1, k2⟩ | ⟨z, hz, k1, k2, k3⟩ | ⟨z, hz, k1, k2, k3⟩
  all_goals
    go_enter Try.func5, Try.ntmps5
    go_wp2_with (first
      | (go_at_call 8; refine (clean_any _ _ ha).mono ?_; rintro e w' ⟨rfl, rfl⟩)
      | (go_at_call 14; refine (off_any _ _).mono ?_; rintro e w' ⟨rfl, rfl⟩)
      | (go_at_call 11; refine (add_any _ _ _ ha (by first | exact hb | (unfold U64; omega))).mono ?_; rintro e w' ⟨rfl, rfl⟩))
    refine (within_any _ _ _ _ (by omega) (by omega) (by omega)).mono ?_
    rintro e w' ⟨⟨n', n1, n2, rfl⟩, rfl⟩
    go_wp2_with fail
    refine (within_any _ _ _ _ (by omega) (by omega) (by omega)).mono ?_
    rintro e w' ⟨⟨m', m1, m2, rfl⟩, rfl⟩
    obtain ⟨i, rfl⟩ := Int.eq_ofNat_of_zero_le n1
    obtain ⟨j, rfl⟩ := Int.eq_ofNat_of_zero_le m1
    have q1 := fun (w : World) t => run_float_arith (P := Try.prog) w .quo t .f64 _ _ _ (Fl.quo8 i (by omega))
    have q2 := fun (w : World) t => run_float_arith (P := Try.prog) w .quo t .f64 _ _ _ (Fl.quo4 j (by omega))
    have q3 := fun (w : World) t => run_float_arith (P := Try.prog) w .add t .f64 _ _ _ (Fl.e8_sum i (2 * j) (by omega))
    have q4 := ad_pos i (2 * j) (by omega)
    have q5 := ad_neg i (2 * j) (by omega)
    have q6 := or_63 (Fl.e8 (2 * j)) (Fl.e8_le _ (by omega))
    have u1 := U64.off (Fl.e8 i) (Fl.e8_le _ (by omega))
    have u2 := U64.off (Fl.e8 (2 * j)) (Fl.e8_le _ (by omega))
    have u3 := U64.off (Fl.e8 (i + 2 * j)) (Fl.e8_le _ (by omega))
    have u4 := U64.ng (Fl.e8 (2 * j)) (Fl.e8_le _ (by omega))
    go_wp2_with (first
      | (go_at_call 11; refine (add_any _ _ _ (by first | with_reducible exact ha | with_reducible exact u1 | with_reducible exact u3) (by first | with_reducible exact u2 | with_reducible exact u4 | (unfold U64; omega))).mono ?_; rintro e w' ⟨rfl, rfl⟩)
      | (go_at_call 3; refine (runs_any _).mono ?_; rintro e w' ⟨rfl, rfl⟩))
    go_ret
    exact ⟨rfl, rfl⟩
end Go.Proofs.Ytoijlkhgbbgogaa
