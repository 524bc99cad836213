/-
  The contracts of package scroll's functions, and of the law's own helpers, over the translation: what each answers, by bits. The world stays as it is.
-/
import Derived.Test.YtoijlkhgbbgogaaRows
import Derived.Test.YtoijlkhgbbgogaaFloat
import Derived.WalkKit
import Derived.Laws.Externs
import Derived.Lib.Hide
import Derived.WalkSpells
import Derived.WalkLawsBesides
namespace Go.Proofs.Ytoijlkhgbbgogaa
open Go.RowKit

theorem run_min_float_lt {P : Program} (w : World) (ts : Array TypeId) (t : TypeId) (x y : Nat) (h : FloatKind.f64.format.order x y = some .lt) : (Builtin.min_ ts t #[.float .f64 x, .float .f64 y]).run P w = .ok (.float .f64 x) w := by
  simp [Builtin.min_, Builtin.min2, h]
theorem run_min_float_gt {P : Program} (w : World) (ts : Array TypeId) (t : TypeId) (x y : Nat) (h : FloatKind.f64.format.order x y = some .gt) : (Builtin.min_ ts t #[.float .f64 x, .float .f64 y]).run P w = .ok (.float .f64 y) w := by
  simp [Builtin.min_, Builtin.min2, h]
theorem run_min_float_self {P : Program} (w : World) (ts : Array TypeId) (t : TypeId) (x : Nat) (h : FloatKind.f64.format.order x x = some .eq) : (Builtin.min_ ts t #[.float .f64 x, .float .f64 x]).run P w = .ok (.float .f64 x) w := by
  simp [Builtin.min_, Builtin.min2, h]

@[go_sem] theorem bits7 (b : Nat) (w : World) : (callFunc 7 #[.float .f64 b]).run Try.prog w = .ok (.value (.int .u64 b)) w := by
  rw [run_callFunc_extern (e := Extern.MathFloatBits.float64bits) Try.func7 (by kernel_rfl) (by kernel_rfl) (by kernel_rfl) (by kernel_rfl)]
  rfl
@[go_sem] theorem from18 (n : Int) (w : World) : (callFunc 18 #[.int .u64 n]).run Try.prog w = .ok (.value (.float .f64 n.toNat)) w := by
  rw [run_callFunc_extern (e := Extern.MathFloatBits.float64frombits) Try.func18 (by kernel_rfl) (by kernel_rfl) (by kernel_rfl) (by kernel_rfl)]
  rfl

theorem f64_format : FloatKind.f64.format = Ieee.double := rfl

set_option maxHeartbeats 400000 in
theorem nearest_zero (x : Nat) (w : World) (h : (FloatKind.f64.format.order x 0 == some .gt) = false) :
    Calls Try.prog 20 #[.float .f64 x] w fun e w' => e = .returned (.float .f64 0) ∧ w = w' := by
  go_enter Try.func20, Try.ntmps20
  go_wp2
  go_ret
  exact ⟨rfl, rfl⟩

set_option maxHeartbeats 400000 in
theorem nearest_min (x z : Nat) (w : World) (h : (FloatKind.f64.format.order x 0 == some .gt) = true)
    (hm : ∀ (w : World) ts t, (Builtin.min_ ts t #[.float .f64 x, .float .f64 4697254411347427328]).run Try.prog w = .ok (.float .f64 z) w) :
    Calls Try.prog 20 #[.float .f64 x] w fun e w' => e = .returned (.float .f64 z) ∧ w = w' := by
  go_enter Try.func20, Try.ntmps20
  go_wp2
  go_ret
  exact ⟨rfl, rfl⟩

theorem top_eq : (4697254411347427328 : Nat) = Fl.TOP := rfl
theorem nearest_any (x : Nat) (w : World) (h : x < 18446744073709551616) :
    Calls Try.prog 20 #[.float .f64 x] w fun e w' => e = .returned (.float .f64 (Fl.cl x)) ∧ w = w' := by
  by_cases h1 : x ≤ Fl.INF
  · by_cases h0 : 0 < x
    · rcases Nat.lt_trichotomy x Fl.TOP with h2 | h2 | h2
      · rw [Fl.cl_of_le x (by omega)]
        refine nearest_min x x w (Fl.gt0_yes x h1 h0) ?_
        intro w ts t
        refine run_min_float_lt w ts t _ _ ?_
        rw [top_eq, f64_format, Fl.order_le x _ h1 (Nat.le_of_lt Fl.TOP_lt), Nat.compare_eq_lt.2 h2]
      · rw [Fl.cl_of_le x (by omega)]
        refine nearest_min x x w (Fl.gt0_yes x h1 h0) ?_
        intro w ts t
        rw [top_eq, h2]
        refine run_min_float_self w ts t _ ?_
        rw [f64_format, Fl.order_le _ _ (Nat.le_of_lt Fl.TOP_lt) (Nat.le_of_lt Fl.TOP_lt)]; simp
      · have : Fl.cl x = Fl.TOP := by unfold Fl.cl; rw [if_pos h1]; omega
        rw [this]
        refine nearest_min x _ w (Fl.gt0_yes x h1 h0) ?_
        intro w ts t
        rw [top_eq]
        refine run_min_float_gt w ts t _ _ ?_
        rw [f64_format, Fl.order_le x _ h1 (Nat.le_of_lt Fl.TOP_lt), Nat.compare_eq_gt.2 h2]
    · have : x = 0 := by omega
      subst this
      have : Fl.cl 0 = 0 := by decide +kernel
      rw [this]
      exact nearest_zero 0 w (by decide +kernel)
  · have : Fl.cl x = 0 := by unfold Fl.cl; rw [if_neg h1]
    rw [this]
    exact nearest_zero x w (Fl.gt0_no x h (by omega))

/-- a uint64 -/
def U64 (a : Int) : Prop := 0 ≤ a ∧ a < 18446744073709551616
theorem U64.nat {a : Int} (h : U64 a) : a.toNat < 18446744073709551616 := by unfold U64 at h; omega
/-- Clean's answer -/
def clI (a : Int) : Int := (Fl.cl a.toNat : Nat)

set_option maxHeartbeats 400000 in
theorem offset_any (a : Int) (w : World) (h : U64 a) :
    Calls Try.prog 17 #[.int .u64 a] w fun e w' => e = .returned (.float .f64 (Fl.cl a.toNat)) ∧ w = w' := by
  have H := Lib.hid h.nat
  go_enter Try.func17, Try.ntmps17
  go_wp2_with (go_at_call 20; refine (nearest_any _ _ H.out).mono ?_; rintro e w' ⟨rfl, rfl⟩)
  go_ret
  exact ⟨rfl, rfl⟩

set_option maxHeartbeats 400000 in
theorem clean_any (a : Int) (w : World) (h : U64 a) :
    Calls Try.prog 8 #[.int .u64 a] w fun e w' => e = .returned (.int .u64 (clI a)) ∧ w = w' := by
  go_enter Try.func8, Try.ntmps8
  go_wp2_with (go_at_call 17; refine (offset_any _ _ h).mono ?_; rintro e w' ⟨rfl, rfl⟩)
  go_ret
  exact ⟨rfl, rfl⟩

/-- is it a NaN, by its bits -/
def nanI (a : Int) : Bool := Fl.isN a.toNat

set_option maxHeartbeats 400000 in
theorem isNaN_any (x : Nat) (b : Bool) (w : World) (h : (FloatKind.f64.format.order x x != some .eq) = b) :
    Calls Try.prog 19 #[.float .f64 x] w fun e w' => e = .returned (.bool b) ∧ w = w' := by
  go_enter Try.func19, Try.ntmps19
  go_wp2
  go_ret
  exact ⟨rfl, rfl⟩
set_option maxHeartbeats 400000 in
theorem isNaN2_any (x : Nat) (b : Bool) (w : World) (h : (FloatKind.f64.format.order x x != some .eq) = b) :
    Calls Try.prog 22 #[.float .f64 x] w fun e w' => e = .returned (.bool b) ∧ w = w' := by
  go_enter Try.func22, Try.ntmps22
  go_wp2
  go_ret
  exact ⟨rfl, rfl⟩

theorem isNaN2_le (x : Nat) (w : World) (h : x ≤ Fl.INF) :
    Calls Try.prog 22 #[.float .f64 x] w fun e w' => e = .returned (.bool false) ∧ w = w' :=
  isNaN2_any x false w (by rw [f64_format, Fl.order_le x x h h]; simp)

/-- Add's answer -/
def adI (a b : Int) : Int := (Fl.ad a.toNat b.toNat : Nat)
set_option maxHeartbeats 400000 in
theorem add_nan (a b : Int) (w : World) (ha : U64 a) (hn : (FloatKind.f64.format.order b.toNat b.toNat != some .eq) = true) :
    Calls Try.prog 11 #[.int .u64 a, .int .u64 b] w fun e w' => e = .returned (.int .u64 (Fl.cl a.toNat : Nat)) ∧ w = w' := by
  have H := Lib.hid hn; clear hn
  go_enter Try.func11, Try.ntmps11
  go_wp2_with (first | (go_at_call 17; refine (offset_any _ _ ha).mono ?_; rintro e w' ⟨rfl, rfl⟩) | (go_at_call 19; refine (isNaN_any _ _ _ H.out).mono ?_; rintro e w' ⟨rfl, rfl⟩))
  go_ret
  exact ⟨rfl, rfl⟩
set_option maxHeartbeats 400000 in
theorem add_sum (a b : Int) (r : Nat) (w : World) (ha : U64 a) (hn : (FloatKind.f64.format.order b.toNat b.toNat != some .eq) = false)
    (hr : ∀ w t, (binOp .add t (.float .f64 (Fl.cl a.toNat)) (.float .f64 b.toNat)).run Try.prog w = .ok (.float .f64 r) w) (hrr : r < 18446744073709551616) :
    Calls Try.prog 11 #[.int .u64 a, .int .u64 b] w fun e w' => e = .returned (.int .u64 (Fl.cl r : Nat)) ∧ w = w' := by
  have H := Lib.hid hn; clear hn
  have H2 := Lib.hid hrr; clear hrr
  go_enter Try.func11, Try.ntmps11
  go_wp2_with (first | (go_at_call 17; refine (offset_any _ _ ha).mono ?_; rintro e w' ⟨rfl, rfl⟩) | (go_at_call 19; refine (isNaN_any _ _ _ H.out).mono ?_; rintro e w' ⟨rfl, rfl⟩) | (go_at_call 20; refine (nearest_any _ _ H2.out).mono ?_; rintro e w' ⟨rfl, rfl⟩))
  go_ret
  exact ⟨rfl, rfl⟩
theorem add_any (a b : Int) (w : World) (ha : U64 a) (hb : U64 b) :
    Calls Try.prog 11 #[.int .u64 a, .int .u64 b] w fun e w' => e = .returned (.int .u64 (adI a b)) ∧ w = w' := by
  have hs := Fl.nan_self b.toNat hb.nat
  by_cases hn : Fl.isN b.toNat = true
  · rw [hn] at hs
    have := add_nan a b w ha hs
    unfold adI; rw [Fl.ad_nan _ _ hn]; exact this
  · have hn' : Fl.isN b.toNat = false := by simpa using hn
    rw [hn'] at hs
    have hk := Fl.sm_some (Fl.cl a.toNat) b.toNat (Fl.cl_le _) hb.nat hn'
    have := add_sum a b _ w ha hs (fun w t => run_float_arith w .add t .f64 _ _ _ hk.1) hk.2
    unfold adI Fl.ad; rw [if_neg hn]; exact this

/-- the order of two offsets -/
def cpN (x y : Nat) : Int := if x < y then -1 else if y < x then 1 else 0
def cpI (a b : Int) : Int := cpN (Fl.cl a.toNat) (Fl.cl b.toNat)
set_option maxHeartbeats 400000 in
theorem cmp_at (x y : Nat) (r : Int) (l g : Bool) (w : World) (hx : x ≤ Fl.INF) (hy : y ≤ Fl.INF)
    (hl : (FloatKind.f64.format.order x y == some .lt) = l) (hg : (FloatKind.f64.format.order x y == some .gt) = g)
    (hr : r = if l then -1 else if g then 1 else 0) :
    Calls Try.prog 21 #[.float .f64 x, .float .f64 y] w fun e w' => e = .returned (.int .i64 r) ∧ w = w' := by
  cases l <;> cases g
  all_goals
    simp only [if_true, if_false, Bool.false_eq_true] at hr
    subst hr
    go_enter Try.func21, Try.ntmps21
    go_wp2_with (go_at_call 22; refine (isNaN2_le _ _ (by first | exact hx | exact hy)).mono ?_; rintro e w' ⟨rfl, rfl⟩)
    go_ret
    exact ⟨rfl, rfl⟩

theorem cmp_any (x y : Nat) (w : World) (hx : x ≤ Fl.INF) (hy : y ≤ Fl.INF) :
    Calls Try.prog 21 #[.float .f64 x, .float .f64 y] w fun e w' => e = .returned (.int .i64 (cpN x y)) ∧ w = w' := by
  refine cmp_at x y _ (decide (x < y)) (decide (y < x)) w hx hy ?_ ?_ ?_
  · rw [f64_format, Fl.order_le x y hx hy]
    by_cases h : x < y
    · rw [Nat.compare_eq_lt.2 h]; simp [h]
    · rw [decide_eq_false h, beq_eq_false_iff_ne]
      intro hh; exact h (Nat.compare_eq_lt.1 (Option.some.inj hh))
  · rw [f64_format, Fl.order_le x y hx hy]
    by_cases h : y < x
    · rw [Nat.compare_eq_gt.2 h]; simp [h]
    · rw [decide_eq_false h, beq_eq_false_iff_ne]
      intro hh; exact h (Nat.compare_eq_gt.1 (Option.some.inj hh))
  · unfold cpN; simp
theorem cl_inf (x : Nat) : Fl.cl x ≤ Fl.INF := Nat.le_trans (Fl.cl_le x) (Nat.le_of_lt Fl.TOP_lt)
set_option maxHeartbeats 400000 in
theorem compare_any (a b : Int) (w : World) (ha : U64 a) (hb : U64 b) :
    Calls Try.prog 13 #[.int .u64 a, .int .u64 b] w fun e w' => e = .returned (.int .i64 (cpI a b)) ∧ w = w' := by
  go_enter Try.func13, Try.ntmps13
  go_wp2_with (first | (go_at_call 17; refine (offset_any _ _ (by first | exact ha | exact hb)).mono ?_; rintro e w' ⟨rfl, rfl⟩) | (go_at_call 21; refine (cmp_any _ _ _ (cl_inf _) (cl_inf _)).mono ?_; rintro e w' ⟨rfl, rfl⟩))
  go_ret
  exact ⟨rfl, rfl⟩

set_option maxHeartbeats 400000 in
theorem within_any (n lo hi : Int) (w : World) (h0 : -100000 ≤ lo) (h1 : lo ≤ hi) (h2 : hi ≤ 100000) :
    Calls Try.prog 16 #[.int .i64 n, .int .i64 lo, .int .i64 hi] w fun e w' => (∃ r, lo ≤ r ∧ r ≤ hi ∧ e = .returned (.int .i64 r)) ∧ w = w' := by
  have t1 : n.tmod (hi - lo + 1) < hi - lo + 1 := Int.tmod_lt_of_pos _ (by omega)
  have t2 : -(hi - lo + 1) < n.tmod (hi - lo + 1) := Int.lt_tmod_of_pos _ (by omega)
  go_enter Try.func16, Try.ntmps16
  go_wp2
  all_goals go_ret
  · exact ⟨⟨_, by omega, by omega, rfl⟩, rfl⟩
  · exact ⟨⟨_, by omega, by omega, rfl⟩, rfl⟩

theorem U64.clI (a : Int) : U64 (clI a) := by
  have := Fl.cl_le a.toNat
  unfold U64 Ytoijlkhgbbgogaa.clI; unfold Fl.TOP at this; omega
theorem U64.adI (a b : Int) : U64 (adI a b) := by
  have := Fl.ad_le a.toNat b.toNat
  unfold U64 Ytoijlkhgbbgogaa.adI; unfold Fl.TOP at this; omega
theorem clI_fix (a : Int) (h0 : 0 ≤ a) (h : a ≤ 4697254411347427328) : clI a = a := by
  unfold clI; rw [Fl.cl_of_le _ (by unfold Fl.TOP; omega)]; omega

/-- the law's own 'offset' -/
def offB (a : Int) : Bool := decide (a ≤ 4697254411347427328)
set_option maxHeartbeats 400000 in
theorem off_any (a : Int) (w : World) :
    Calls Try.prog 14 #[.int .u64 a] w fun e w' => e = .returned (.bool (offB a)) ∧ w = w' := by
  go_enter Try.func14, Try.ntmps14
  go_wp2
  go_ret
  exact ⟨rfl, rfl⟩
set_option maxHeartbeats 400000 in
theorem right_any (a : Int) (w : World) (h : U64 a) :
    Calls Try.prog 15 #[.int .u64 a] w fun e w' => e = .returned (.bool (clI a == a)) ∧ w = w' := by
  go_enter Try.func15, Try.ntmps15
  go_wp2_with (go_at_call 8; refine (clean_any _ _ h).mono ?_; rintro e w' ⟨rfl, rfl⟩)
  go_ret
  exact ⟨rfl, rfl⟩
end Go.Proofs.Ytoijlkhgbbgogaa
