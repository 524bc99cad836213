/-
  Eighths: what n/8 and n/4 are by their bits (n small), their sums, differences and order. No condition beyond those typed.
-/
import Derived.Test.YtoijlkhgbbgogaaFloat
namespace Go.Proofs.Ytoijlkhgbbgogaa.Fl
/-! eighths -/
def e8 (n : Nat) : Nat := rnd (n * 2 ^ 1071)
def ok8p (n : Nat) : Bool := floatBits .quo .f64 (floatOfInt .f64 n) 4620693217682128896 == some (e8 n)
def ok8n (n : Nat) : Bool := floatBits .quo .f64 (floatOfInt .f64 (-(n : Int))) 4620693217682128896 == some (SG + e8 n)
def ok4p (n : Nat) : Bool := floatBits .quo .f64 (floatOfInt .f64 n) 4616189618054758400 == some (e8 (2 * n))
def upto (p : Nat → Bool) : Nat → Bool
  | 0 => true
  | n + 1 => p n && upto p n
theorem upto_all (p : Nat → Bool) : ∀ n, upto p n = true → ∀ k, k < n → p k = true
  | 0, _, _, h => absurd h (Nat.not_lt_zero _)
  | n + 1, h, k, hk => by
    unfold upto at h
    rw [Bool.and_eq_true] at h
    by_cases e : k = n
    · rw [e]; exact h.1
    · exact upto_all p n h.2 k (by omega)
theorem all8p : upto ok8p 1501 = true := by decide +kernel
theorem all8n : upto (fun n => ok8n (n + 1)) 25 = true := by decide +kernel
theorem all4p : upto ok4p 1001 = true := by decide +kernel

theorem rnd_exact (m s : Nat) (hm : m < 2 * B) : vl (rnd (m * 2 ^ s)) = m * 2 ^ s := by
  have hBpos : 0 < B := by decide +kernel
  by_cases h0 : m = 0
  · subst h0; rw [Nat.zero_mul]; decide +kernel
  have hl := log2_shift m s h0
  have hl2 : m.log2 ≤ 52 := by
    have h1 := Nat.log2_self_le h0
    have h3 : (2 : Nat) ^ 53 = 2 * B := by decide +kernel
    apply Nat.le_of_not_lt
    intro h
    have h2 : (2 : Nat) ^ 53 ≤ 2 ^ m.log2 := Nat.pow_le_pow_right (by omega) (by omega)
    omega
  unfold rnd
  by_cases hL : (m * 2 ^ s).log2 ≤ 52
  · rw [if_pos hL]
    apply vl_small
    have h1 := Nat.lt_log2_self (n := m * 2 ^ s)
    have h2 : 2 ^ ((m * 2 ^ s).log2 + 1) ≤ 2 ^ 53 := Nat.pow_le_pow_right (by omega) (by omega)
    have h3 : (2 : Nat) ^ 53 = 2 * B := by decide +kernel
    omega
  · rw [if_neg hL]
    obtain ⟨e, he⟩ : ∃ e, (m * 2 ^ s).log2 = e + 52 := ⟨(m * 2 ^ s).log2 - 52, by omega⟩
    rw [he, Nat.add_sub_cancel]
    have e1 : m * 2 ^ s = (m * 2 ^ (s - e)) * 2 ^ e := by
      rw [Nat.mul_assoc, ← Nat.pow_add, Nat.sub_add_cancel (by omega)]
    have gp : 0 < 2 ^ e := Nat.two_pow_pos _
    have k : ct (m * 2 ^ s) (2 ^ e) = m * 2 ^ (s - e) := by
      rw [e1]; exact Nat.le_antisymm (ct_le _ _ _ gp (Nat.le_refl _)) (ct_ge _ _ _ gp (Nat.le_refl _))
    rw [k]
    have hne : m * 2 ^ s ≠ 0 := Nat.ne_of_gt (Nat.mul_pos (Nat.pos_of_ne_zero h0) (Nat.two_pow_pos _))
    have lo := Nat.log2_self_le hne
    have hi := Nat.lt_log2_self (n := m * 2 ^ s)
    rw [he, e1] at lo hi
    have lo' : B ≤ m * 2 ^ (s - e) := by
      rw [Nat.pow_add, B_pow, Nat.mul_comm] at lo
      exact Nat.le_of_mul_le_mul_right lo gp
    have hi' : m * 2 ^ (s - e) < 2 * B := by
      rw [show e + 52 + 1 = e + 53 by omega, Nat.pow_add, show (2 : Nat) ^ 53 = 2 * B by decide +kernel, Nat.mul_comm (2 ^ e)] at hi
      exact Nat.lt_of_mul_lt_mul_right hi
    rw [e1]
    generalize m * 2 ^ (s - e) = z at *
    have hq : (e * B + z) / B = e + 1 := by
      rw [Nat.mul_comm, Nat.mul_add_div hBpos]
      have : z / B = 1 := Nat.div_eq_of_lt_le (by omega) (by omega)
      omega
    have hr : (e * B + z) % B = z - B := by
      rw [Nat.mul_comm, Nat.mul_add_mod, Nat.mod_eq_sub_mod lo', Nat.mod_eq_of_lt (by omega)]
    rw [vl_great _ e hq, hr, show B + (z - B) = z by omega]

theorem e8_vl (n : Nat) (h : n ≤ 3000) : vl (e8 n) = n * 2 ^ 1071 := rnd_exact n 1071 (by unfold B; omega)
theorem e8_mono (a b : Nat) (h : a ≤ b) (hb : b ≤ 3000) : e8 a ≤ e8 b := by
  have h1 : vl (e8 a) ≤ b * 2 ^ 1071 := by rw [e8_vl a (by omega)]; exact Nat.mul_le_mul h (Nat.le_refl _)
  exact (cross _ _).1 h1
theorem e8_le (n : Nat) (h : n ≤ 3000) : e8 n ≤ TOP := by
  have := e8_mono n 3000 h (Nat.le_refl _)
  have h2 : e8 3000 ≤ TOP := by decide +kernel
  omega
theorem e8_lt (a b : Nat) (h : a < b) (hb : b ≤ 3000) : e8 a < e8 b := by
  have h1 := e8_mono a b (by omega) hb
  apply Nat.lt_of_le_of_ne h1
  intro e
  have := congrArg vl e
  rw [e8_vl a (by omega), e8_vl b hb] at this
  have := Nat.eq_of_mul_eq_mul_right (Nat.two_pow_pos _) this
  omega
theorem e8_sum (a c : Nat) (h : a + c ≤ 3000) : Ieee.double.add (e8 a) (e8 c) = some (e8 (a + c)) := by
  have hT := TOP_lt
  have h1 := e8_le a (by omega)
  have h2 := e8_le c (by omega)
  have h3 := e8_le (a + c) h
  rw [add_num _ _ (by omega) (by omega), e8_vl a (by omega), e8_vl c (by omega), ← Nat.add_mul]
  show some (min (e8 (a + c)) INF) = _
  rw [Nat.min_eq_left (by omega)]
theorem e8_dif (a c : Nat) (h : a + c ≤ 3000) : Ieee.double.add (e8 (a + c)) (SG + e8 c) = some (e8 a) := by
  have hT := TOP_lt
  have h1 := e8_le a (by omega)
  have h2 := e8_le c (by omega)
  have h3 := e8_le (a + c) h
  rw [add_sub _ _ (by omega) (by omega), e8_vl c (by omega), e8_vl (a + c) h, if_pos (Nat.mul_le_mul (by omega) (Nat.le_refl _)), ← Nat.sub_mul, Nat.add_sub_cancel]
  show some (min (e8 a) INF) = _
  rw [Nat.min_eq_left (by omega)]
theorem ad_e8 (a c : Nat) (h : a + c ≤ 3000) : ad (e8 a) (e8 c) = e8 (a + c) := by
  have hT := TOP_lt
  have h1 := e8_le a (by omega)
  have h2 := e8_le c (by omega)
  have h3 := e8_le (a + c) h
  unfold ad sm
  rw [isN_small _ (by omega), cl_of_le _ h1, e8_sum a c h, Option.getD_some, cl_of_le _ h3]
  simp only [Bool.false_eq_true, if_false]
theorem ad_n8 (a c : Nat) (h : a + c ≤ 3000) : ad (e8 (a + c)) (SG + e8 c) = e8 a := by
  have hT := TOP_lt
  have h1 := e8_le a (by omega)
  have h2 := e8_le c (by omega)
  have h3 := e8_le (a + c) h
  unfold ad sm
  rw [isN_neg _ (by omega), cl_of_le _ h3, e8_dif a c h, Option.getD_some, cl_of_le _ h1]
  simp only [Bool.false_eq_true, if_false]
theorem quo8 (n : Nat) (h : n ≤ 1500) : floatBits .quo .f64 (floatOfInt .f64 n) 4620693217682128896 = some (e8 n) := by
  have := upto_all ok8p 1501 all8p n (by omega)
  unfold ok8p at this; simpa using this
theorem quo8n (n : Nat) (h0 : 1 ≤ n) (h : n ≤ 25) : floatBits .quo .f64 (floatOfInt .f64 (-(n : Int))) 4620693217682128896 = some (SG + e8 n) := by
  have := upto_all _ 25 all8n (n - 1) (by omega)
  rw [show n - 1 + 1 = n by omega] at this
  unfold ok8n at this; simpa using this
theorem quo4 (n : Nat) (h : n ≤ 1000) : floatBits .quo .f64 (floatOfInt .f64 n) 4616189618054758400 = some (e8 (2 * n)) := by
  have := upto_all ok4p 1001 all4p n (by omega)
  unfold ok4p at this; simpa using this
end Go.Proofs.Ytoijlkhgbbgogaa.Fl
