/-
  Floats of 64 bits, by their bits: what a word's rung is worth, that rounding keeps the order, what a sum is, what Clean and Add answer, and eighths. Nothing here speaks of a program. No condition beyond those typed.
-/
import Derived.Laws.Cover2
import Derived.Laws.FloatArith
import Derived.KernelRfl
namespace Go.Proofs.Ytbkhlmnonjkelaa.Fl

/-- rungs to a binade, infinity's rung, the sign's weight -/
def B : Nat := 4503599627370496
def INF : Nat := 9218868437227405312
def SG : Nat := 9223372036854775808

theorem B_pow : (2 : Nat) ^ 52 = B := by decide +kernel
theorem fbits : Ieee.double.fractionBits = 52 := rfl
theorem binade_eq : Ieee.double.binade = B := by unfold Ieee.Format.binade; exact B_pow
theorem inf_eq : Ieee.double.infRung = INF := by decide +kernel
theorem sg_eq : Ieee.double.signWeight = SG := by decide +kernel
theorem least_eq : Ieee.double.leastPlace = -1074 := by decide +kernel

/-- a rung's significand, its shift, its value in units of the least place -/
def mg (r : Nat) : Nat := if r < B then r else B + r % B
def sh (r : Nat) : Nat := r / B - 1
def vl (r : Nat) : Nat := mg r * 2 ^ sh r

theorem vl_small (r : Nat) (h : r < 2 * B) : vl r = r := by
  unfold vl mg sh
  unfold B at *
  by_cases h1 : r < 4503599627370496
  · have : r / 4503599627370496 - 1 = 0 := by omega
    rw [if_pos h1, this]; simp
  · have : r / 4503599627370496 - 1 = 0 := by omega
    rw [if_neg h1, this]
    have : r % 4503599627370496 = r - 4503599627370496 := by omega
    rw [this]; simp; omega

theorem vl_great (r q : Nat) (hq : r / B = q + 1) : vl r = (B + r % B) * 2 ^ q := by
  unfold vl mg sh
  have hB : 0 < B := by decide +kernel
  have : ¬ r < B := by
    intro h
    have := Nat.div_eq_of_lt h
    omega
  rw [if_neg this, hq]; simp

/-- the cut to a whole number, to the nearest and the even one, by its gap -/
def ct (n g : Nat) : Nat := n / g + (decide (g < 2 * (n % g)) || (g == 2 * (n % g) && n / g % 2 == 1)).toNat

theorem ct_ge (n g k : Nat) (hg : 0 < g) (h : k * g ≤ n) : k ≤ ct n g := by
  have : k ≤ n / g := (Nat.le_div_iff_mul_le hg).2 h
  unfold ct; omega

theorem ct_le (n g k : Nat) (hg : 0 < g) (h : n ≤ k * g) : ct n g ≤ k := by
  unfold ct
  by_cases he : n = k * g
  · subst he
    rw [Nat.mul_mod_left, Nat.mul_div_cancel _ hg]
    have h1 : decide (g < 2 * 0) = false := by simp
    have h2 : (g == 2 * 0) = false := by simp; omega
    rw [h1, h2]; simp
  · have h1 : n / g < k := (Nat.div_lt_iff_lt_mul hg).2 (by omega)
    have h2 : ∀ b : Bool, b.toNat ≤ 1 := by decide
    have := h2 (decide (g < 2 * (n % g)) || (g == 2 * (n % g) && n / g % 2 == 1))
    omega

theorem ct_mul (n g c : Nat) (hc : 0 < c) : ct (n * c) (g * c) = ct n g := by
  unfold ct
  rw [Nat.mul_div_mul_right _ _ hc, Nat.mul_mod_mul_right, show 2 * (n % g * c) = (2 * (n % g)) * c by rw [Nat.mul_assoc]]
  have e1 : decide (g * c < 2 * (n % g) * c) = decide (g < 2 * (n % g)) := by
    rw [decide_eq_decide]; exact Nat.mul_lt_mul_right hc
  have e2 : (g * c == 2 * (n % g) * c) = (g == 2 * (n % g)) := by
    rw [Bool.eq_iff_iff]; simp only [beq_iff_eq]
    exact ⟨fun h => Nat.eq_of_mul_eq_mul_right hc h, fun h => congrArg (· * c) h⟩
  rw [e1, e2]

theorem cut_eq (n d : Nat) (h : d ≤ n.log2 + 2) : Ieee.Toward.even.cut false n d = ct n (2 ^ d) ∧ Ieee.Toward.even.cut true n d = ct n (2 ^ d) := by
  unfold Ieee.Toward.cut ct
  simp only [Nat.min_eq_left h, Nat.one_shiftLeft]
  simp

/-- the rung that a number in units of the least place is rounded to -/
def rnd (V : Nat) : Nat := if V.log2 ≤ 52 then V else (V.log2 - 52) * B + ct V (2 ^ (V.log2 - 52))

theorem cross (r V : Nat) : (vl r ≤ V → r ≤ rnd V) ∧ (V ≤ vl r → rnd V ≤ r) := by
  have hBpos : 0 < B := by decide +kernel
  unfold rnd
  by_cases hL : V.log2 ≤ 52
  · rw [if_pos hL]
    have hV : V < 2 * B := by
      have h1 := Nat.lt_log2_self (n := V)
      have h2 : 2 ^ (V.log2 + 1) ≤ 2 ^ 53 := Nat.pow_le_pow_right (by omega) (by omega)
      have h3 : (2 : Nat) ^ 53 = 2 * B := by decide +kernel
      omega
    by_cases hr : r < 2 * B
    · rw [vl_small r hr]; exact ⟨id, id⟩
    · have hq : 2 ≤ r / B := (Nat.le_div_iff_mul_le hBpos).2 (by omega)
      obtain ⟨q, hq'⟩ : ∃ q, r / B = (q + 1) + 1 := ⟨r / B - 2, by omega⟩
      have hv := vl_great r (q + 1) hq'
      have h2 : 2 ≤ 2 ^ (q + 1) := by
        have := Nat.two_pow_pos q
        rw [Nat.pow_succ]; omega
      have h3 : B * 2 ≤ (B + r % B) * 2 ^ (q + 1) := Nat.mul_le_mul (by omega) h2
      constructor
      · intro h; omega
      · intro _; omega
  · rw [if_neg hL]
    obtain ⟨e, he⟩ : ∃ e, V.log2 = e + 1 + 52 := ⟨V.log2 - 53, by omega⟩
    have hne : V ≠ 0 := by rintro rfl; simp at hL
    have lo : 2 ^ V.log2 ≤ V := Nat.log2_self_le hne
    have hi : V < 2 ^ (V.log2 + 1) := Nat.lt_log2_self
    rw [he] at lo hi ⊢
    rw [Nat.pow_add, B_pow] at lo
    rw [show e + 1 + 52 + 1 = (e + 1 + 1) + 52 by omega, Nat.pow_add, B_pow, Nat.pow_succ] at hi
    rw [Nat.add_sub_cancel]
    have gp : 0 < 2 ^ (e + 1) := Nat.two_pow_pos _
    have k1 : B ≤ ct V (2 ^ (e + 1)) := ct_ge _ _ _ gp (by rw [Nat.mul_comm]; exact lo)
    have k2 : ct V (2 ^ (e + 1)) ≤ 2 * B := ct_le _ _ _ gp (by rw [Nat.mul_comm 2 B, Nat.mul_assoc, Nat.mul_comm 2, Nat.mul_comm B]; omega)
    by_cases hr : r < 2 * B
    · rw [vl_small r hr]
      have : B * 2 ≤ 2 ^ (e + 1) * B := by
        rw [Nat.mul_comm]; apply Nat.mul_le_mul _ (Nat.le_refl _)
        rw [Nat.pow_succ]; have := Nat.two_pow_pos e; omega
      have h1 : 1 * B ≤ (e + 1) * B := Nat.mul_le_mul (by omega) (Nat.le_refl _)
      constructor
      · intro _; omega
      · intro _; omega
    · have hq : 2 ≤ r / B := (Nat.le_div_iff_mul_le hBpos).2 (by omega)
      obtain ⟨q, hq'⟩ : ∃ q, r / B = q + 1 := ⟨r / B - 1, by omega⟩
      have hv := vl_great r q hq'
      have hm : r % B < B := Nat.mod_lt _ hBpos
      have hr' : r = (q + 1) * B + r % B := by
        have := Nat.div_add_mod r B
        rw [hq', Nat.mul_comm] at this; omega
      rcases Nat.lt_trichotomy q (e + 1) with h | h | h
      · -- a lower binade
        have p1 : 2 * 2 ^ q ≤ 2 ^ (e + 1) := by
          rw [Nat.mul_comm, ← Nat.pow_succ]; exact Nat.pow_le_pow_right (by omega) h
        have p2 : vl r < 2 ^ (e + 1) * B := by
          rw [hv]
          calc (B + r % B) * 2 ^ q < (2 * B) * 2 ^ q := Nat.mul_lt_mul_of_pos_right (by omega) (Nat.two_pow_pos _)
            _ = (2 * 2 ^ q) * B := by rw [Nat.mul_assoc, Nat.mul_comm B, ← Nat.mul_assoc]
            _ ≤ 2 ^ (e + 1) * B := Nat.mul_le_mul p1 (Nat.le_refl _)
        have p3 : (q + 1) * B ≤ (e + 1) * B := Nat.mul_le_mul (by omega) (Nat.le_refl _)
        constructor
        · intro _; omega
        · intro _; omega
      · subst h
        have e1 : (e + 1 + 1) * B = (e + 1) * B + B := by rw [Nat.succ_mul]
        constructor
        · intro h; rw [hv] at h; have := ct_ge V _ _ gp h; omega
        · intro h; rw [hv] at h; have := ct_le V _ _ gp h; omega
      · -- a higher one
        have p1 : 2 * 2 ^ (e + 1) ≤ 2 ^ q := by
          rw [Nat.mul_comm, ← Nat.pow_succ]; exact Nat.pow_le_pow_right (by omega) h
        have p2 : 2 * 2 ^ (e + 1) * B ≤ vl r := by
          rw [hv, Nat.mul_comm]
          exact Nat.mul_le_mul (by omega) p1
        have p3 : (e + 1 + 2) * B ≤ (q + 1) * B := Nat.mul_le_mul (by omega) (Nat.le_refl _)
        have e1 : (e + 1 + 2) * B = (e + 1) * B + 2 * B := by rw [Nat.add_mul]
        have e2 : 2 * 2 ^ (e + 1) * B = 2 ^ (e + 1) * 2 * B := by rw [Nat.mul_comm 2]
        constructor
        · intro h; omega
        · intro _; omega

theorem rnd_vl (r : Nat) : rnd (vl r) = r :=
  Nat.le_antisymm ((cross r (vl r)).2 (Nat.le_refl _)) ((cross r (vl r)).1 (Nat.le_refl _))

theorem vl_lt (r s : Nat) (h : r < s) : vl r < vl s := by
  apply Nat.lt_of_not_le
  intro hle
  have := (cross s (vl r)).1 hle
  rw [rnd_vl] at this; omega
theorem vl_zero : vl 0 = 0 := vl_small 0 (by decide +kernel)

theorem log2_shift (m k : Nat) (h : m ≠ 0) : (m * 2 ^ k).log2 = m.log2 + k := by
  have h1 := Nat.log2_self_le h
  have h2 := Nat.lt_log2_self (n := m)
  have p := Nat.two_pow_pos k
  refine (Nat.log2_eq_iff (Nat.ne_of_gt (Nat.mul_pos (Nat.pos_of_ne_zero h) p))).2 ⟨?_, ?_⟩
  · rw [Nat.pow_add]; exact Nat.mul_le_mul h1 (Nat.le_refl _)
  · rw [show m.log2 + k + 1 = (m.log2 + 1) + k by omega, Nat.pow_add]
    exact Nat.mul_lt_mul_of_pos_right h2 p

theorem nearest_eq (neg : Bool) (mag k : Nat) :
    Ieee.double.nearest neg mag (-1074 + (k : Int)) = Ieee.double.word neg (min (rnd (mag * 2 ^ k)) INF) := by
  unfold Ieee.Format.nearest
  by_cases h0 : mag = 0
  · rw [if_pos h0, h0]; simp [rnd]
  · rw [if_neg h0]
    simp only [least_eq, fbits, binade_eq, inf_eq]
    have hl := log2_shift mag k h0
    have cutb : ∀ n d, d ≤ n.log2 + 2 → Ieee.Toward.even.cut neg n d = ct n (2 ^ d) := by
      intro n d h; cases neg
      · exact (cut_eq n d h).1
      · exact (cut_eq n d h).2
    unfold rnd
    by_cases hL : mag.log2 + k ≤ 52
    · rw [hl, if_pos hL]
      have m1 : max (-1074 + (k : Int) + (mag.log2 : Int) - ((52 : Nat) : Int)) (-1074) = -1074 := by omega
      rw [m1]
      have t1 : (-1074 + (k : Int) - -1074).toNat = k := by omega
      have t2 : (-1074 - (-1074 + (k : Int))).toNat = 0 := by omega
      rw [t1, t2, cutb _ 0 (by omega), Nat.shiftLeft_eq]
      have : ct (mag * 2 ^ k) (2 ^ 0) = mag * 2 ^ k := by
        apply Nat.le_antisymm
        · exact ct_le _ _ _ (by omega) (by simp)
        · exact ct_ge _ _ _ (by omega) (by simp)
      rw [this]; simp
    · rw [hl, if_neg hL]
      obtain ⟨e, he⟩ : ∃ e, mag.log2 + k = e + 52 := ⟨mag.log2 + k - 52, by omega⟩
      have m1 : max (-1074 + (k : Int) + (mag.log2 : Int) - ((52 : Nat) : Int)) (-1074) = -1074 + (e : Int) := by omega
      rw [m1, he, Nat.add_sub_cancel]
      have t0 : (-1074 + (e : Int) - -1074).toNat = e := by omega
      rw [t0]
      by_cases hk : e ≤ k
      · have t1 : (-1074 + (k : Int) - (-1074 + (e : Int))).toNat = k - e := by omega
        have t2 : (-1074 + (e : Int) - (-1074 + (k : Int))).toNat = 0 := by omega
        rw [t1, t2, cutb _ 0 (by omega), Nat.shiftLeft_eq]
        have e1 : mag * 2 ^ k = (mag * 2 ^ (k - e)) * 2 ^ e := by
          rw [Nat.mul_assoc, ← Nat.pow_add]; congr 2; omega
        have e2 : ct (mag * 2 ^ k) (2 ^ e) = ct (mag * 2 ^ (k - e)) (2 ^ 0) := by
          rw [e1]
          have := ct_mul (mag * 2 ^ (k - e)) 1 (2 ^ e) (Nat.two_pow_pos _)
          rw [Nat.one_mul] at this
          rw [this]
        rw [e2]
      · have t1 : (-1074 + (k : Int) - (-1074 + (e : Int))).toNat = 0 := by omega
        have t2 : (-1074 + (e : Int) - (-1074 + (k : Int))).toNat = e - k := by omega
        rw [t1, t2, Nat.shiftLeft_zero, cutb _ _ (by omega)]
        have e1 : (2 : Nat) ^ e = 2 ^ (e - k) * 2 ^ k := by
          rw [← Nat.pow_add]; congr 1; omega
        rw [e1, ct_mul _ _ _ (Nat.two_pow_pos _)]

/-! what words stand for -/
theorem read_pos (r : Nat) (h : r < INF) : Ieee.double.read r = .number false (mg r) (-1074 + ((sh r : Nat) : Int)) := by
  unfold Ieee.Format.read
  simp only [sg_eq, binade_eq, inf_eq, least_eq]
  have hs : r < SG := by unfold INF at h; unfold SG; omega
  rw [Nat.mod_eq_of_lt hs, Nat.div_eq_of_lt hs]
  unfold mg sh
  by_cases h1 : r < B
  · rw [if_pos h1, if_pos h1, Nat.div_eq_of_lt h1]; simp
  · rw [if_neg h1, if_neg h1, if_pos h]; simp

theorem read_neg (r : Nat) (h : r < INF) : Ieee.double.read (SG + r) = .number true (mg r) (-1074 + ((sh r : Nat) : Int)) := by
  unfold Ieee.Format.read
  simp only [sg_eq, binade_eq, inf_eq, least_eq]
  have hs : r < SG := by unfold INF at h; unfold SG; omega
  rw [Nat.add_mod_left, Nat.mod_eq_of_lt hs, Nat.add_div_left _ (by decide +kernel), Nat.div_eq_of_lt hs]
  unfold mg sh
  by_cases h1 : r < B
  · rw [if_pos h1, if_pos h1, Nat.div_eq_of_lt h1]; simp
  · rw [if_neg h1, if_neg h1, if_pos h]; simp

theorem read_inf : Ieee.double.read INF = .infinity false := by decide +kernel
theorem read_ninf : Ieee.double.read (SG + INF) = .infinity true := by decide +kernel
theorem read_nan (r : Nat) (h1 : INF < r) (h2 : r < SG) : Ieee.double.read r = .nan false (r - INF) := by
  unfold Ieee.Format.read
  simp only [sg_eq, binade_eq, inf_eq, least_eq]
  rw [Nat.mod_eq_of_lt h2, Nat.div_eq_of_lt h2]
  have : B < INF := by decide +kernel
  rw [if_neg (by omega), if_neg (by omega), if_neg (by omega)]; simp
theorem read_nnan (r : Nat) (h1 : INF < r) (h2 : r < SG) : Ieee.double.read (SG + r) = .nan true (r - INF) := by
  unfold Ieee.Format.read
  simp only [sg_eq, binade_eq, inf_eq, least_eq]
  rw [Nat.add_mod_left, Nat.mod_eq_of_lt h2, Nat.add_div_left _ (by decide +kernel), Nat.div_eq_of_lt h2]
  have : B < INF := by decide +kernel
  rw [if_neg (by omega), if_neg (by omega), if_neg (by omega)]; simp

/-- two numbers brought to one place -/
theorem scaled (r m : Nat) (h : m ≤ sh r) : (mg r <<< ((-1074 + ((sh r : Nat) : Int)) - (-1074 + (m : Int))).toNat) * 2 ^ m = vl r := by
  have : ((-1074 + ((sh r : Nat) : Int)) - (-1074 + (m : Int))).toNat = sh r - m := by omega
  rw [this, Nat.shiftLeft_eq, Nat.mul_assoc, ← Nat.pow_add, Nat.sub_add_cancel h]; rfl

theorem min_place (a b : Nat) : min (-1074 + (a : Int)) (-1074 + (b : Int)) = -1074 + ((min a b : Nat) : Int) := by omega

theorem order_num (x y : Nat) (hx : x < INF) (hy : y < INF) : Ieee.double.order x y = some (compare x y) := by
  unfold Ieee.Format.order
  rw [read_pos x hx, read_pos y hy]
  simp only [Ieee.Datum.order, min_place, Ieee.signed]
  have hm := Nat.two_pow_pos (min (sh x) (sh y))
  have a := scaled x (min (sh x) (sh y)) (Nat.min_le_left _ _)
  have b := scaled y (min (sh x) (sh y)) (Nat.min_le_right _ _)
  generalize (mg x <<< ((-1074 + ((sh x : Nat) : Int)) - (-1074 + ((min (sh x) (sh y) : Nat) : Int))).toNat) = p at *
  generalize (mg y <<< ((-1074 + ((sh y : Nat) : Int)) - (-1074 + ((min (sh x) (sh y) : Nat) : Int))).toNat) = q at *
  congr 1
  rcases Nat.lt_trichotomy x y with h | h | h
  · have := vl_lt x y h
    rw [← a, ← b] at this
    have : p < q := Nat.lt_of_mul_lt_mul_right this
    rw [Nat.compare_eq_lt.2 h]
    simp only [Bool.false_eq_true, if_false]
    rw [Int.compare_eq_lt.2 (by omega)]
  · subst h
    have : p = q := Nat.eq_of_mul_eq_mul_right hm (a.trans b.symm)
    rw [this]
    simp
  · have := vl_lt y x h
    rw [← a, ← b] at this
    have : q < p := Nat.lt_of_mul_lt_mul_right this
    rw [Nat.compare_eq_gt.2 h]
    simp only [Bool.false_eq_true, if_false]
    rw [Int.compare_eq_gt.2 (by omega)]

def TOP : Nat := 4697254411347427328
/-- what Clean makes of any bits -/
def cl (x : Nat) : Nat := if x ≤ INF then min x TOP else 0

theorem TOP_lt : TOP < INF := by decide +kernel
theorem INF_lt : INF < SG := by decide +kernel
theorem cl_le (x : Nat) : cl x ≤ TOP := by unfold cl; split <;> omega
theorem cl_of_le (x : Nat) (h : x ≤ TOP) : cl x = x := by
  have := TOP_lt
  unfold cl; rw [if_pos (by omega)]; omega
theorem cl_neg (x : Nat) (h : SG ≤ x) : cl x = 0 := by
  have := INF_lt
  unfold cl; rw [if_neg (by omega)]

theorem order_le (x y : Nat) (hx : x ≤ INF) (hy : y ≤ INF) : Ieee.double.order x y = some (compare x y) := by
  by_cases h1 : x < INF
  · by_cases h2 : y < INF
    · exact order_num x y h1 h2
    · have : y = INF := by omega
      subst this
      unfold Ieee.Format.order
      rw [read_pos x h1, read_inf, Nat.compare_eq_lt.2 h1]; rfl
  · have : x = INF := by omega
    subst this
    by_cases h2 : y < INF
    · unfold Ieee.Format.order
      rw [read_pos y h2, read_inf, Nat.compare_eq_gt.2 h2]; rfl
    · have : y = INF := by omega
      subst this
      decide +kernel

/-- the ways of 64 bits -/
theorem ways (x : Nat) (h : x < 18446744073709551616) :
    x ≤ INF ∨ (INF < x ∧ x < SG) ∨ (∃ r, x = SG + r ∧ r ≤ INF) ∨ (∃ r, x = SG + r ∧ INF < r ∧ r < SG) := by
  unfold SG INF
  by_cases h1 : x ≤ 9218868437227405312
  · exact .inl h1
  · by_cases h2 : x < 9223372036854775808
    · exact .inr (.inl ⟨by omega, h2⟩)
    · by_cases h3 : x - 9223372036854775808 ≤ 9218868437227405312
      · exact .inr (.inr (.inl ⟨x - 9223372036854775808, by omega, h3⟩))
      · exact .inr (.inr (.inr ⟨x - 9223372036854775808, by omega, by omega, by omega⟩))

theorem gt0_no (x : Nat) (h : x < 18446744073709551616) (hi : INF < x) : (Ieee.double.order x 0 == some .gt) = false := by
  have z : Ieee.double.read 0 = .number false 0 (-1074) := by decide +kernel
  rcases ways x h with h1 | ⟨h1, h2⟩ | ⟨r, rfl, hr⟩ | ⟨r, rfl, h1, h2⟩
  · omega
  · unfold Ieee.Format.order; rw [read_nan x h1 h2, z]; rfl
  · unfold Ieee.Format.order
    by_cases h1 : r < INF
    · rw [read_neg r h1, z]
      simp only [Ieee.Datum.order, Ieee.signed, Nat.zero_shiftLeft]
      generalize (mg r <<< ((-1074 + ((sh r : Nat) : Int)) - min (-1074 + ((sh r : Nat) : Int)) (-1074)).toNat) = p
      rw [beq_eq_false_iff_ne]
      intro hh
      have h2 := Int.compare_eq_gt.1 (Option.some.inj hh)
      simp at h2
      omega
    · have : r = INF := by omega
      subst this
      rw [read_ninf, z]; rfl
  · unfold Ieee.Format.order; rw [read_nnan r h1 h2, z]; rfl

theorem gt0_yes (x : Nat) (h : x ≤ INF) (hp : 0 < x) : (Ieee.double.order x 0 == some .gt) = true := by
  rw [order_le x 0 h (Nat.zero_le _), Nat.compare_eq_gt.2 hp]; rfl

def isN (x : Nat) : Bool := decide (INF < x % SG)
theorem isN_small (x : Nat) (h : x ≤ INF) : isN x = false := by
  unfold isN; unfold INF SG at *; simp; omega
theorem nan_self (x : Nat) (h : x < 18446744073709551616) : (Ieee.double.order x x != some .eq) = isN x := by
  rcases ways x h with h1 | ⟨h1, h2⟩ | ⟨r, rfl, hr⟩ | ⟨r, rfl, h1, h2⟩
  · rw [order_le x x h1 h1, isN_small x h1]; simp
  · have : isN x = true := by unfold isN; rw [Nat.mod_eq_of_lt h2]; simpa using h1
    rw [this]; unfold Ieee.Format.order; rw [read_nan x h1 h2]; rfl
  · have hl := INF_lt
    have : isN (SG + r) = false := by unfold isN; rw [Nat.add_mod_left, Nat.mod_eq_of_lt (by omega)]; simpa using hr
    rw [this]; unfold Ieee.Format.order
    by_cases h1 : r < INF
    · rw [read_neg r h1]
      simp only [Ieee.Datum.order, Ieee.signed]
      simp
    · have : r = INF := by omega
      subst this
      rw [read_ninf]; rfl
  · have : isN (SG + r) = true := by unfold isN; rw [Nat.add_mod_left, Nat.mod_eq_of_lt h2]; simpa using h1
    rw [this]; unfold Ieee.Format.order; rw [read_nnan r h1 h2]; rfl

theorem add_num (x y : Nat) (hx : x < INF) (hy : y < INF) : Ieee.double.add x y = some (min (rnd (vl x + vl y)) INF) := by
  unfold Ieee.Format.add
  rw [read_pos x hx, read_pos y hy]
  simp only [Ieee.Datum.sum, min_place, Ieee.signed, Option.map_some, Ieee.Format.write]
  have a := scaled x (min (sh x) (sh y)) (Nat.min_le_left _ _)
  have b := scaled y (min (sh x) (sh y)) (Nat.min_le_right _ _)
  generalize (mg x <<< ((-1074 + ((sh x : Nat) : Int)) - (-1074 + ((min (sh x) (sh y) : Nat) : Int))).toNat) = p at *
  generalize (mg y <<< ((-1074 + ((sh y : Nat) : Int)) - (-1074 + ((min (sh x) (sh y) : Nat) : Int))).toNat) = q at *
  rw [nearest_eq]
  simp only [Bool.false_eq_true, if_false]
  have e1 : ((p : Int) + (q : Int)).natAbs = p + q := by omega
  have e2 : (if (p : Int) + (q : Int) = 0 then (false && false) else decide ((p : Int) + (q : Int) < 0)) = false := by
    split
    · rfl
    · simp; omega
  rw [e1, e2, Nat.add_mul, a, b]
  rfl

theorem add_sub (x y : Nat) (hx : x < INF) (hy : y < INF) : Ieee.double.add x (SG + y) = some (if vl y ≤ vl x then min (rnd (vl x - vl y)) INF else SG + min (rnd (vl y - vl x)) INF) := by
  unfold Ieee.Format.add
  rw [read_pos x hx, read_neg y hy]
  simp only [Ieee.Datum.sum, min_place, Ieee.signed, Option.map_some, Ieee.Format.write]
  have hm := Nat.two_pow_pos (min (sh x) (sh y))
  have a := scaled x (min (sh x) (sh y)) (Nat.min_le_left _ _)
  have b := scaled y (min (sh x) (sh y)) (Nat.min_le_right _ _)
  generalize (mg x <<< ((-1074 + ((sh x : Nat) : Int)) - (-1074 + ((min (sh x) (sh y) : Nat) : Int))).toNat) = p at *
  generalize (mg y <<< ((-1074 + ((sh y : Nat) : Int)) - (-1074 + ((min (sh x) (sh y) : Nat) : Int))).toNat) = q at *
  rw [nearest_eq]
  simp only [Bool.false_eq_true, if_false, if_true]
  congr 1
  by_cases h : q ≤ p
  · have hv : vl y ≤ vl x := by rw [← a, ← b]; exact Nat.mul_le_mul h (Nat.le_refl _)
    rw [if_pos hv]
    have e1 : ((p : Int) + -(q : Int)).natAbs = p - q := by omega
    have e2 : (if (p : Int) + -(q : Int) = 0 then (false && true) else decide ((p : Int) + -(q : Int) < 0)) = false := by
      split
      · rfl
      · simp; omega
    rw [e1, e2, Nat.sub_mul, a, b]
    rfl
  · have hv : ¬ vl y ≤ vl x := by
      rw [← a, ← b]; intro hh; exact h (Nat.le_of_mul_le_mul_right hh hm)
    rw [if_neg hv]
    have e1 : ((p : Int) + -(q : Int)).natAbs = q - p := by omega
    have e2 : (if (p : Int) + -(q : Int) = 0 then (false && true) else decide ((p : Int) + -(q : Int) < 0)) = true := by
      rw [if_neg (by omega)]; simp; omega
    rw [e1, e2, Nat.sub_mul, a, b]
    unfold Ieee.Format.word; rw [if_pos rfl, sg_eq]

theorem add_inf (x : Nat) (hx : x < INF) : Ieee.double.add x INF = some INF := by
  unfold Ieee.Format.add
  rw [read_pos x hx, read_inf]
  simp only [Ieee.Datum.sum, Option.map_some, Ieee.Format.write, inf_eq]; rfl
theorem add_ninf (x : Nat) (hx : x < INF) : Ieee.double.add x (SG + INF) = some (SG + INF) := by
  unfold Ieee.Format.add
  rw [read_pos x hx, read_ninf]
  simp only [Ieee.Datum.sum, Option.map_some, Ieee.Format.write, inf_eq, Ieee.Format.word, sg_eq]; rfl

/-- the sum of an offset and what is no NaN -/
def sm (x by_ : Nat) : Nat := (Ieee.double.add x by_).getD 0
theorem sm_some (x y : Nat) (hx : x ≤ TOP) (hy : y < 18446744073709551616) (hn : isN y = false) :
    Ieee.double.add x y = some (sm x y) ∧ sm x y < 18446744073709551616 := by
  have hx' : x < INF := Nat.lt_of_le_of_lt hx TOP_lt
  have key : ∃ r, Ieee.double.add x y = some r := by
    rcases ways y hy with h1 | ⟨h1, h2⟩ | ⟨r, rfl, hr⟩ | ⟨r, rfl, h1, h2⟩
    · by_cases h2 : y < INF
      · exact ⟨_, add_num x y hx' h2⟩
      · have : y = INF := by omega
        subst this; exact ⟨_, add_inf x hx'⟩
    · unfold isN at hn; rw [Nat.mod_eq_of_lt h2] at hn; simp at hn; omega
    · by_cases h2 : r < INF
      · exact ⟨_, add_sub x r hx' h2⟩
      · have : r = INF := by omega
        subst this; exact ⟨_, add_ninf x hx'⟩
    · unfold isN at hn; rw [Nat.add_mod_left, Nat.mod_eq_of_lt h2] at hn; simp at hn; omega
  obtain ⟨r, hr⟩ := key
  have h3 := Ieee.double.add_lt hr
  have h4 : (2 : Nat) ^ Ieee.double.width = 18446744073709551616 := by decide +kernel
  unfold sm
  rw [hr]
  exact ⟨rfl, by rw [h4] at h3; exact h3⟩

/-- what Add answers, by bits -/
def ad (x y : Nat) : Nat := if isN y then cl x else cl (sm (cl x) y)
theorem ad_le (x y : Nat) : ad x y ≤ TOP := by unfold ad; split <;> exact cl_le _
theorem ad_nan (x y : Nat) (h : isN y = true) : ad x y = cl x := by unfold ad; rw [if_pos h]
theorem ad_up (x y : Nat) (h : y ≤ INF) : cl x ≤ ad x y := by
  have hc := cl_le x
  have hT := TOP_lt
  unfold ad; rw [isN_small y h]; simp only [Bool.false_eq_true, if_false]
  by_cases h2 : y < INF
  · unfold sm; rw [add_num _ _ (by omega) h2, Option.getD_some]
    have := (cross (cl x) (vl (cl x) + vl y)).1 (Nat.le_add_right _ _)
    generalize rnd (vl (cl x) + vl y) = z at *
    generalize cl x = c at *
    unfold cl; rw [if_pos (Nat.min_le_right _ _)]; omega
  · have : y = INF := by omega
    subst this
    unfold sm; rw [add_inf _ (by omega), Option.getD_some]
    have : cl INF = TOP := by decide +kernel
    omega
theorem isN_neg (r : Nat) (h : r ≤ INF) : isN (SG + r) = false := by
  have := INF_lt
  unfold isN; rw [Nat.add_mod_left, Nat.mod_eq_of_lt (by omega)]; simpa using h
theorem ad_down (x r : Nat) (h : r ≤ INF) : ad x (SG + r) ≤ cl x := by
  have hc := cl_le x
  have hT := TOP_lt
  unfold ad; rw [isN_neg r h]; simp only [Bool.false_eq_true, if_false]
  by_cases h2 : r < INF
  · unfold sm; rw [add_sub _ _ (by omega) h2, Option.getD_some]
    by_cases hv : vl r ≤ vl (cl x)
    · rw [if_pos hv]
      have := (cross (cl x) (vl (cl x) - vl r)).2 (Nat.sub_le _ _)
      generalize rnd (vl (cl x) - vl r) = z at *
      generalize cl x = c at *
      unfold cl; split <;> omega
    · rw [if_neg hv, cl_neg _ (Nat.le_add_right _ _)]; omega
  · have : r = INF := by omega
    subst this
    unfold sm; rw [add_ninf _ (by omega), Option.getD_some, cl_neg _ (Nat.le_add_right _ _)]; omega
theorem ad_zero (x : Nat) : ad x 0 = cl x := by
  have hc := cl_le x
  have hT := TOP_lt
  unfold ad; rw [isN_small 0 (Nat.zero_le _)]; simp only [Bool.false_eq_true, if_false]
  unfold sm; rw [add_num _ _ (by omega) (by decide +kernel), Option.getD_some, vl_zero, Nat.add_zero, rnd_vl, Nat.min_eq_left (by omega)]
  exact cl_of_le _ hc
theorem ad_nzero (x : Nat) : ad x SG = cl x := by
  have hc := cl_le x
  have hT := TOP_lt
  have := isN_neg 0 (Nat.zero_le _)
  rw [Nat.add_zero] at this
  unfold ad; rw [this]; simp only [Bool.false_eq_true, if_false]
  have h2 := add_sub (cl x) 0 (by omega) (by decide +kernel)
  rw [Nat.add_zero] at h2
  unfold sm; rw [h2, Option.getD_some, vl_zero, if_pos (Nat.zero_le _), Nat.sub_zero, rnd_vl, Nat.min_eq_left (by omega)]
  exact cl_of_le _ hc
theorem ad_inf (x : Nat) : ad x INF = TOP := by
  have hc := cl_le x
  have hT := TOP_lt
  unfold ad; rw [isN_small INF (Nat.le_refl _)]; simp only [Bool.false_eq_true, if_false]
  unfold sm; rw [add_inf _ (by omega), Option.getD_some]; decide +kernel
theorem ad_ninf (x : Nat) : ad x (SG + INF) = 0 := by
  have hc := cl_le x
  have hT := TOP_lt
  unfold ad; rw [isN_neg INF (Nat.le_refl _)]; simp only [Bool.false_eq_true, if_false]
  unfold sm; rw [add_ninf _ (by omega), Option.getD_some, cl_neg _ (Nat.le_add_right _ _)]

end Go.Proofs.Ytbkhlmnonjkelaa.Fl
