/-
  The closed law ScrollRuns, walked: it returns true, and the world stays as it is.
-/
import Derived.Test.YtoijlkhgbbgogaaCalls
namespace Go.Proofs.Ytoijlkhgbbgogaa
open Go.RowKit

set_option maxHeartbeats 400000 in
theorem part_zero (a b : Int) (w : World) (hb : U64 b) (h0 : Fl.cl b.toNat = 0) :
    Calls Try.prog 12 #[.int .u64 a, .int .u64 b] w fun e w' => e = .returned (.int .u64 0) ∧ w = w' := by
  have hz : (FloatKind.f64.format.order 0 0 == some .eq) = true := by decide +kernel
  go_enter Try.func12, Try.ntmps12
  go_wp2_with (go_at_call 17; refine (offset_any _ _ hb).mono ?_; rintro e w' ⟨rfl, rfl⟩)
  go_ret
  exact ⟨rfl, rfl⟩

set_option maxHeartbeats 400000 in
theorem part_at (a b : Int) (q z : Nat) (w : World) (ha : U64 a) (hb : U64 b)
    (h0 : (FloatKind.f64.format.order (Fl.cl b.toNat) 0 == some .eq) = false)
    (hq : ∀ w t, (binOp .quo t (.float .f64 (Fl.cl a.toNat)) (.float .f64 (Fl.cl b.toNat))).run Try.prog w = .ok (.float .f64 q) w)
    (hm : ∀ (w : World) ts t, (Builtin.min_ ts t #[.float .f64 q, .float .f64 4607182418800017408]).run Try.prog w = .ok (.float .f64 z) w) :
    Calls Try.prog 12 #[.int .u64 a, .int .u64 b] w fun e w' => e = .returned (.int .u64 (z : Int)) ∧ w = w' := by
  go_enter Try.func12, Try.ntmps12
  go_wp2_with (go_at_call 17; refine (offset_any _ _ (by first | exact ha | exact hb)).mono ?_; rintro e w' ⟨rfl, rfl⟩)
  go_ret
  exact ⟨rfl, rfl⟩

theorem part_runs (w : World) : Calls Try.prog 12 #[.int .u64 4613937818241073152, .int .u64 4622945017495814144] w fun e w' => e = .returned (.int .u64 4598175219545276416) ∧ w = w' := by
  refine part_at 4613937818241073152 4622945017495814144 4598175219545276416 4598175219545276416 w (by unfold U64; omega) (by unfold U64; omega) (by decide +kernel) (fun w t => ?_) (fun w ts t => ?_)
  · exact run_float_arith w .quo t .f64 _ _ _ (by decide +kernel)
  · exact run_min_float_lt w ts t _ _ (by decide +kernel)

set_option maxHeartbeats 400000 in
theorem nan_any (w : World) : Calls Try.prog 9 #[] w fun e w' => e = .returned (.float .f64 9221120237041090561) ∧ w = w' := by
  go_enter Try.func9, Try.ntmps9
  go_wp2
  go_ret
  exact ⟨rfl, rfl⟩
set_option maxHeartbeats 400000 in
theorem inf_any (w : World) : Calls Try.prog 10 #[.int .i64 1] w fun e w' => e = .returned (.float .f64 9218868437227405312) ∧ w = w' := by
  go_enter Try.func10, Try.ntmps10
  go_wp2
  go_ret
  exact ⟨rfl, rfl⟩

set_option maxHeartbeats 1000000 in
set_option maxRecDepth 100000 in
theorem runs_any (w : World) : Calls Try.prog 3 #[] w fun e w' => e = .returned (.bool true) ∧ w = w' := by
  have c1 : clI 13830554455654793216 = 0 := by decide +kernel
  have c2 : clI 9221120237041090561 = 0 := by decide +kernel
  have c3 : clI 9223372036854775808 = 0 := by decide +kernel
  have c4 : clI 9218868437227405312 = 4697254411347427328 := by decide +kernel
  have a1 : adI 4617315517961601024 13844628204490326016 = 0 := by decide +kernel
  have a2 : adI 4617315517961601024 9221120237041090561 = 4617315517961601024 := by decide +kernel
  have p1 : cpI 4607182418800017408 4611686018427387904 = -1 := by decide +kernel
  go_enter Try.func3, Try.ntmps3
  go_wp2_with (first
    | (go_at_call 9; refine (nan_any _).mono ?_; rintro e w' ⟨rfl, rfl⟩)
    | (go_at_call 10; refine (inf_any _).mono ?_; rintro e w' ⟨rfl, rfl⟩)
    | (go_at_call 8; refine (clean_any _ _ (by unfold U64; omega)).mono ?_; rintro e w' ⟨rfl, rfl⟩)
    | (go_at_call 11; refine (add_any _ _ _ (by unfold U64; omega) (by unfold U64; omega)).mono ?_; rintro e w' ⟨rfl, rfl⟩)
    | (go_at_call 13; refine (compare_any _ _ _ (by unfold U64; omega) (by unfold U64; omega)).mono ?_; rintro e w' ⟨rfl, rfl⟩)
    | (go_at_call 12; with_reducible refine (part_runs _).mono ?_; rintro e w' ⟨rfl, rfl⟩)
    | (go_at_call 12; refine (part_zero _ _ _ (by unfold U64; omega) (by decide +kernel)).mono ?_; rintro e w' ⟨rfl, rfl⟩))
  go_ret
  exact ⟨rfl, rfl⟩
end Go.Proofs.Ytoijlkhgbbgogaa
