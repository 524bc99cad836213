/-
  The walk of the law ScrollCleans: for any two words of 64 bits it returns true, and the world stays as it is.
-/
import Derived.Test.YtoijlkhgbbgogaaRuns
namespace Go.Proofs.Ytoijlkhgbbgogaa
open Go.RowKit

/-- which way of the law's first switch: what Clean is there -/
theorem cl_ways (a : Int) (ha : U64 a) :
    ((a / 9223372036854775808 == 1) = true ∧ clI a = 0) ∨ ((a / 9223372036854775808 == 1) = false ∧ 9218868437227405312 < a ∧ clI a = 0) ∨
    ((a / 9223372036854775808 == 1) = false ∧ a ≤ 9218868437227405312 ∧ 4697254411347427328 < a ∧ clI a = 4697254411347427328) ∨
    ((a / 9223372036854775808 == 1) = false ∧ a ≤ 9218868437227405312 ∧ a ≤ 4697254411347427328 ∧ clI a = a) := by
  unfold U64 at ha
  have z : Fl.INF = 9218868437227405312 := rfl
  have t : Fl.TOP = 4697254411347427328 := rfl
  by_cases h1 : 9223372036854775808 ≤ a
  · refine .inl ⟨by rw [beq_iff_eq]; omega, ?_⟩
    unfold clI; rw [Fl.cl_neg _ (by unfold Fl.SG; omega)]; rfl
  · have e : (a / 9223372036854775808 == 1) = false := by rw [beq_eq_false_iff_ne]; omega
    by_cases h2 : 9218868437227405312 < a
    · refine .inr (.inl ⟨e, h2, ?_⟩)
      unfold clI Fl.cl; rw [if_neg (by omega)]; rfl
    · by_cases h3 : 4697254411347427328 < a
      · refine .inr (.inr (.inl ⟨e, by omega, h3, ?_⟩))
        unfold clI Fl.cl; rw [if_pos (by omega), Nat.min_eq_right (by omega)]; rfl
      · refine .inr (.inr (.inr ⟨e, by omega, by omega, ?_⟩))
        unfold clI Fl.cl; rw [if_pos (by omega), Nat.min_eq_left (by omega)]; omega

theorem cp_lt (a b : Int) (h : clI a < clI b) : cpI a b = -1 ∧ cpI b a = 1 := by
  unfold clI at h; unfold cpI cpN
  exact ⟨by rw [if_pos (by omega)], by rw [if_neg (by omega), if_pos (by omega)]⟩
theorem cp_eq (a b : Int) (h : clI a = clI b) : cpI a b = 0 ∧ cpI b a = 0 := by
  unfold clI at h; unfold cpI cpN
  exact ⟨by rw [if_neg (by omega), if_neg (by omega)], by rw [if_neg (by omega), if_neg (by omega)]⟩

theorem clI_0 : clI 0 = 0 := by decide +kernel
theorem clI_top : clI 4697254411347427328 = 4697254411347427328 := by decide +kernel


set_option maxHeartbeats 2000000 in
set_option maxRecDepth 100000 in
theorem cleans1 (a b y : Int) (w : World) (ha : U64 a) (hb : U64 b) (s : (a / 9223372036854775808 == 1) = true) (hx : clI a = 0) (hy : clI b = y) (p q : Int) (h1 : cpI a b = p) (h2 : cpI b a = q)
    (ho : (0 < y ∧ p = -1 ∧ q = 1) ∨ (y < 0 ∧ p = 1 ∧ q = -1) ∨ (y = 0 ∧ p = 0 ∧ q = 0)) :
    Calls Try.prog 4 #[.int .u64 a, .int .u64 b] w fun e w' => e = .returned (.bool true) ∧ w = w' := by
  have x0 := clI_0
  have o0 : offB 0 = true := by decide +kernel
  rcases ho with ⟨ho, rfl, rfl⟩ | ⟨ho, rfl, rfl⟩ | ⟨rfl, rfl, rfl⟩
  all_goals
    go_enter Try.func4, Try.ntmps4
    go_wp2_with (first
      | (go_at_call 8; refine (clean_any _ _ (by first | exact ha | exact hb | (unfold U64; omega))).mono ?_; rintro e w' ⟨rfl, rfl⟩)
      | (go_at_call 14; refine (off_any _ _).mono ?_; rintro e w' ⟨rfl, rfl⟩)
      | (go_at_call 15; refine (right_any _ _ ha).mono ?_; rintro e w' ⟨rfl, rfl⟩)
      | (go_at_call 13; refine (compare_any _ _ _ (by first | exact ha | exact hb) (by first | exact ha | exact hb)).mono ?_; rintro e w' ⟨rfl, rfl⟩)
      | (go_at_call 3; refine (runs_any _).mono ?_; rintro e w' ⟨rfl, rfl⟩))
    go_ret
    exact ⟨rfl, rfl⟩

set_option maxHeartbeats 2000000 in
set_option maxRecDepth 100000 in
theorem cleans2 (a b y : Int) (w : World) (ha : U64 a) (hb : U64 b) (s : (a / 9223372036854775808 == 1) = false) (h3 : 9218868437227405312 < a) (hx : clI a = 0) (hy : clI b = y) (p q : Int) (h1 : cpI a b = p) (h2 : cpI b a = q)
    (ho : (0 < y ∧ p = -1 ∧ q = 1) ∨ (y < 0 ∧ p = 1 ∧ q = -1) ∨ (y = 0 ∧ p = 0 ∧ q = 0)) :
    Calls Try.prog 4 #[.int .u64 a, .int .u64 b] w fun e w' => e = .returned (.bool true) ∧ w = w' := by
  have x0 := clI_0
  have o0 : offB 0 = true := by decide +kernel
  rcases ho with ⟨ho, rfl, rfl⟩ | ⟨ho, rfl, rfl⟩ | ⟨rfl, rfl, rfl⟩
  all_goals
    go_enter Try.func4, Try.ntmps4
    go_wp2_with (first
      | (go_at_call 8; refine (clean_any _ _ (by first | exact ha | exact hb | (unfold U64; omega))).mono ?_; rintro e w' ⟨rfl, rfl⟩)
      | (go_at_call 14; refine (off_any _ _).mono ?_; rintro e w' ⟨rfl, rfl⟩)
      | (go_at_call 15; refine (right_any _ _ ha).mono ?_; rintro e w' ⟨rfl, rfl⟩)
      | (go_at_call 13; refine (compare_any _ _ _ (by first | exact ha | exact hb) (by first | exact ha | exact hb)).mono ?_; rintro e w' ⟨rfl, rfl⟩)
      | (go_at_call 3; refine (runs_any _).mono ?_; rintro e w' ⟨rfl, rfl⟩))
    go_ret
    exact ⟨rfl, rfl⟩

set_option maxHeartbeats 2000000 in
set_option maxRecDepth 100000 in
theorem cleans3 (a b y : Int) (w : World) (ha : U64 a) (hb : U64 b) (s : (a / 9223372036854775808 == 1) = false) (h3 : a ≤ 9218868437227405312) (h4 : 4697254411347427328 < a) (hx : clI a = 4697254411347427328) (hy : clI b = y) (p q : Int) (h1 : cpI a b = p) (h2 : cpI b a = q)
    (ho : (4697254411347427328 < y ∧ p = -1 ∧ q = 1) ∨ (y < 4697254411347427328 ∧ p = 1 ∧ q = -1) ∨ (y = 4697254411347427328 ∧ p = 0 ∧ q = 0)) :
    Calls Try.prog 4 #[.int .u64 a, .int .u64 b] w fun e w' => e = .returned (.bool true) ∧ w = w' := by
  have x0 := clI_top
  have o0 : offB 4697254411347427328 = true := by decide +kernel
  rcases ho with ⟨ho, rfl, rfl⟩ | ⟨ho, rfl, rfl⟩ | ⟨rfl, rfl, rfl⟩
  all_goals
    go_enter Try.func4, Try.ntmps4
    go_wp2_with (first
      | (go_at_call 8; refine (clean_any _ _ (by first | exact ha | exact hb | (unfold U64; omega))).mono ?_; rintro e w' ⟨rfl, rfl⟩)
      | (go_at_call 14; refine (off_any _ _).mono ?_; rintro e w' ⟨rfl, rfl⟩)
      | (go_at_call 15; refine (right_any _ _ ha).mono ?_; rintro e w' ⟨rfl, rfl⟩)
      | (go_at_call 13; refine (compare_any _ _ _ (by first | exact ha | exact hb) (by first | exact ha | exact hb)).mono ?_; rintro e w' ⟨rfl, rfl⟩)
      | (go_at_call 3; refine (runs_any _).mono ?_; rintro e w' ⟨rfl, rfl⟩))
    go_ret
    exact ⟨rfl, rfl⟩

set_option maxHeartbeats 2000000 in
set_option maxRecDepth 100000 in
theorem cleans4 (a b y : Int) (w : World) (ha : U64 a) (hb : U64 b) (s : (a / 9223372036854775808 == 1) = false) (h3 : a ≤ 9218868437227405312) (h4 : a ≤ 4697254411347427328) (hx : clI a = a) (hy : clI b = y) (p q : Int) (h1 : cpI a b = p) (h2 : cpI b a = q)
    (ho : (a < y ∧ p = -1 ∧ q = 1) ∨ (y < a ∧ p = 1 ∧ q = -1) ∨ (y = a ∧ p = 0 ∧ q = 0)) :
    Calls Try.prog 4 #[.int .u64 a, .int .u64 b] w fun e w' => e = .returned (.bool true) ∧ w = w' := by
  have o0 : offB a = true := by unfold offB; exact decide_eq_true h4
  rcases ho with ⟨ho, rfl, rfl⟩ | ⟨ho, rfl, rfl⟩ | ⟨rfl, rfl, rfl⟩
  all_goals
    go_enter Try.func4, Try.ntmps4
    go_wp2_with (first
      | (go_at_call 8; refine (clean_any _ _ (by first | exact ha | exact hb | (unfold U64; omega))).mono ?_; rintro e w' ⟨rfl, rfl⟩)
      | (go_at_call 14; refine (off_any _ _).mono ?_; rintro e w' ⟨rfl, rfl⟩)
      | (go_at_call 15; refine (right_any _ _ ha).mono ?_; rintro e w' ⟨rfl, rfl⟩)
      | (go_at_call 13; refine (compare_any _ _ _ (by first | exact ha | exact hb) (by first | exact ha | exact hb)).mono ?_; rintro e w' ⟨rfl, rfl⟩)
      | (go_at_call 3; refine (runs_any _).mono ?_; rintro e w' ⟨rfl, rfl⟩))
    go_ret
    exact ⟨rfl, rfl⟩

theorem cleans_any (a b : Int) (w : World) (ha : U64 a) (hb : U64 b) :
    Calls Try.prog 4 #[.int .u64 a, .int .u64 b] w fun e w' => e = .returned (.bool true) ∧ w = w' := by
  have ho : (clI a < clI b ∧ cpI a b = -1 ∧ cpI b a = 1) ∨ (clI b < clI a ∧ cpI a b = 1 ∧ cpI b a = -1) ∨ (clI b = clI a ∧ cpI a b = 0 ∧ cpI b a = 0) := by
    rcases Int.lt_trichotomy (clI a) (clI b) with h | h | h
    · exact .inl ⟨h, cp_lt a b h⟩
    · exact .inr (.inr ⟨h.symm, cp_eq a b h⟩)
    · exact .inr (.inl ⟨h, (cp_lt b a h).2, (cp_lt b a h).1⟩)
  rcases cl_ways a ha with ⟨s, hx⟩ | ⟨s, h3, hx⟩ | ⟨s, h3, h4, hx⟩ | ⟨s, h3, h4, hx⟩
  · rw [hx] at ho; exact cleans1 a b _ w ha hb s hx rfl _ _ rfl rfl ho
  · rw [hx] at ho; exact cleans2 a b _ w ha hb s h3 hx rfl _ _ rfl rfl ho
  · rw [hx] at ho; exact cleans3 a b _ w ha hb s h3 h4 hx rfl _ _ rfl rfl ho
  · rw [hx] at ho; exact cleans4 a b _ w ha hb s h3 h4 hx rfl _ _ rfl rfl ho
end Go.Proofs.Ytoijlkhgbbgogaa
