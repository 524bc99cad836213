/-
  The contracts of scroll.Clean and of porticobook.Within over this translation. The world stays as it is.
-/
import Derived.Test.YtbkhlmnonjkelaaRows
import Derived.Test.YtbkhlmnonjkelaaFloat
import Derived.WalkKit
import Derived.Laws.Externs
import Derived.Lib.Hide
import Derived.WalkSpells
import Derived.WalkLawsBesides
namespace Go.Proofs.Ytbkhlmnonjkelaa
open Go.RowKit

theorem run_min_float_lt {P : Program} (w : World) (ts : Array TypeId) (t : TypeId) (x y : Nat) (h : FloatKind.f64.format.order x y = some .lt) : (Builtin.min_ ts t #[.float .f64 x, .float .f64 y]).run P w = .ok (.float .f64 x) w := by
  simp [Builtin.min_, Builtin.min2, h]
theorem run_min_float_gt {P : Program} (w : World) (ts : Array TypeId) (t : TypeId) (x y : Nat) (h : FloatKind.f64.format.order x y = some .gt) : (Builtin.min_ ts t #[.float .f64 x, .float .f64 y]).run P w = .ok (.float .f64 y) w := by
  simp [Builtin.min_, Builtin.min2, h]
theorem run_min_float_self {P : Program} (w : World) (ts : Array TypeId) (t : TypeId) (x : Nat) (h : FloatKind.f64.format.order x x = some .eq) : (Builtin.min_ ts t #[.float .f64 x, .float .f64 x]).run P w = .ok (.float .f64 x) w := by
  simp [Builtin.min_, Builtin.min2, h]

@[go_sem] theorem bits25 (b : Nat) (w : World) : (callFunc 25 #[.float .f64 b]).run Try.prog w = .ok (.value (.int .u64 b)) w := by
  rw [run_callFunc_extern (e := Extern.MathFloatBits.float64bits) Try.func25 (by kernel_rfl) (by kernel_rfl) (by kernel_rfl) (by kernel_rfl)]
  rfl
@[go_sem] theorem from28 (n : Int) (w : World) : (callFunc 28 #[.int .u64 n]).run Try.prog w = .ok (.value (.float .f64 n.toNat)) w := by
  rw [run_callFunc_extern (e := Extern.MathFloatBits.float64frombits) Try.func28 (by kernel_rfl) (by kernel_rfl) (by kernel_rfl) (by kernel_rfl)]
  rfl

theorem f64_format : FloatKind.f64.format = Ieee.double := rfl

set_option maxHeartbeats 400000 in
theorem nearest_zero (x : Nat) (w : World) (h : (FloatKind.f64.format.order x 0 == some .gt) = false) :
    Calls Try.prog 27 #[.float .f64 x] w fun e w' => e = .returned (.float .f64 0) ∧ w = w' := by
  go_enter Try.func27, Try.ntmps27
  go_wp2
  go_ret
  exact ⟨rfl, rfl⟩

set_option maxHeartbeats 400000 in
theorem nearest_min (x z : Nat) (w : World) (h : (FloatKind.f64.format.order x 0 == some .gt) = true)
    (hm : ∀ (w : World) ts t, (Builtin.min_ ts t #[.float .f64 x, .float .f64 4697254411347427328]).run Try.prog w = .ok (.float .f64 z) w) :
    Calls Try.prog 27 #[.float .f64 x] w fun e w' => e = .returned (.float .f64 z) ∧ w = w' := by
  go_enter Try.func27, Try.ntmps27
  go_wp2
  go_ret
  exact ⟨rfl, rfl⟩

theorem top_eq : (4697254411347427328 : Nat) = Fl.TOP := rfl
theorem nearest_any (x : Nat) (w : World) (h : x < 18446744073709551616) :
    Calls Try.prog 27 #[.float .f64 x] w fun e w' => e = .returned (.float .f64 (Fl.cl x)) ∧ w = w' := by
  by_cases h1 : x ≤ Fl.INF
  · by_cases h0 : 0 < x
    · rcases Nat.lt_trichotomy x Fl.TOP with h2 | h2 | h2
      · rw [Fl.cl_of_le x (by omega)]
        refine nearest_min x x w (Fl.gt0_yes x h1 h0) ?_
        intro w ts t
        refine run_min_float_lt w ts t _ _ ?_
        rw [top_eq, f64_format, Fl.order_le x _ h1 (Nat.le_of_lt Fl.TOP_lt), Nat.compare_eq_lt.2 h2]
      · rw [Fl.cl_of_le x (by omega)]
        refine nearest_min x x w (Fl.gt0_yes x h1 h0) ?_
        intro w ts t
        rw [top_eq, h2]
        refine run_min_float_self w ts t _ ?_
        rw [f64_format, Fl.order_le _ _ (Nat.le_of_lt Fl.TOP_lt) (Nat.le_of_lt Fl.TOP_lt)]; simp
      · have : Fl.cl x = Fl.TOP := by unfold Fl.cl; rw [if_pos h1]; omega
        rw [this]
        refine nearest_min x _ w (Fl.gt0_yes x h1 h0) ?_
        intro w ts t
        rw [top_eq]
        refine run_min_float_gt w ts t _ _ ?_
        rw [f64_format, Fl.order_le x _ h1 (Nat.le_of_lt Fl.TOP_lt), Nat.compare_eq_gt.2 h2]
    · have : x = 0 := by omega
      subst this
      have : Fl.cl 0 = 0 := by decide +kernel
      rw [this]
      exact nearest_zero 0 w (by decide +kernel)
  · have : Fl.cl x = 0 := by unfold Fl.cl; rw [if_neg h1]
    rw [this]
    exact nearest_zero x w (Fl.gt0_no x h (by omega))

/-- a uint64 -/
def U64 (a : Int) : Prop := 0 ≤ a ∧ a < 18446744073709551616
theorem U64.nat {a : Int} (h : U64 a) : a.toNat < 18446744073709551616 := by unfold U64 at h; omega
/-- Clean's answer -/
def clI (a : Int) : Int := (Fl.cl a.toNat : Nat)

set_option maxHeartbeats 400000 in
theorem offset_any (a : Int) (w : World) (h : U64 a) :
    Calls Try.prog 26 #[.int .u64 a] w fun e w' => e = .returned (.float .f64 (Fl.cl a.toNat)) ∧ w = w' := by
  have H := Lib.hid h.nat
  go_enter Try.func26, Try.ntmps26
  go_wp2_with (go_at_call 27; refine (nearest_any _ _ H.out).mono ?_; rintro e w' ⟨rfl, rfl⟩)
  go_ret
  exact ⟨rfl, rfl⟩

set_option maxHeartbeats 400000 in
theorem clean_any (a : Int) (w : World) (h : U64 a) :
    Calls Try.prog 16 #[.int .u64 a] w fun e w' => e = .returned (.int .u64 (clI a)) ∧ w = w' := by
  go_enter Try.func16, Try.ntmps16
  go_wp2_with (go_at_call 26; refine (offset_any _ _ h).mono ?_; rintro e w' ⟨rfl, rfl⟩)
  go_ret
  exact ⟨rfl, rfl⟩

set_option maxHeartbeats 400000 in
theorem within_any (n lo hi : Int) (w : World) (h0 : -100000 ≤ lo) (h1 : lo ≤ hi) (h2 : hi ≤ 100000) :
    Calls Try.prog 23 #[.int .i64 n, .int .i64 lo, .int .i64 hi] w fun e w' => (∃ r, lo ≤ r ∧ r ≤ hi ∧ e = .returned (.int .i64 r)) ∧ w = w' := by
  have t1 : n.tmod (hi - lo + 1) < hi - lo + 1 := Int.tmod_lt_of_pos _ (by omega)
  have t2 : -(hi - lo + 1) < n.tmod (hi - lo + 1) := Int.lt_tmod_of_pos _ (by omega)
  go_enter Try.func23, Try.ntmps23
  go_wp2
  all_goals go_ret
  · exact ⟨⟨_, by omega, by omega, rfl⟩, rfl⟩
  · exact ⟨⟨_, by omega, by omega, rfl⟩, rfl⟩

theorem U64.clI (a : Int) : U64 (clI a) := by
  have := Fl.cl_le a.toNat
  unfold U64 Ytbkhlmnonjkelaa.clI; unfold Fl.TOP at this; omega
theorem clI_fix (a : Int) (h0 : 0 ≤ a) (h : a ≤ 4697254411347427328) : clI a = a := by
  unfold clI; rw [Fl.cl_of_le _ (by unfold Fl.TOP; omega)]; omega

end Go.Proofs.Ytbkhlmnonjkelaa
