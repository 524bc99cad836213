/-
  Plain contracts of pct's and of the reference's small functions.
-/
import Derived.Test.YtgiepgbjkkhniaaRows
import Derived.Test.YtgiepgbjkkhniaaPure
import Derived.WalkKit
import Derived.WalkLawsBesides
import Derived.Lib.Hide
import Derived.PlainAid
import Derived.IntWalk
import Derived.Laws.BitsAllLaws
namespace Go.Proofs.Ytgiepgbjkkhniaa
open Go.RowKit Go.PlainAid

set_option maxHeartbeats 800000 in
theorem plainP (c : Int) (w : World) : Calls Try.prog 65 #[.int .u8 c] w fun e w' => e = .returned (.bool (pl c)) ∧ w = w' := by
  go_enter Try.func65, Try.ntmps65
  go_wp2
  all_goals first
    | (have hp : pl c = true := by (unfold pl; exact decide_eq_true (by omega))
       rw [hp]; go_ret; exact ⟨rfl, rfl⟩)
    | (have hp : pl c = (c == 45 || c == 46 || c == 95 || c == 126) := by (rw [Bool.eq_iff_iff]; simp [pl]; omega)
       rw [hp]; go_ret; exact ⟨rfl, rfl⟩)
    | (go_ret; exact ⟨rfl, rfl⟩)

set_option maxHeartbeats 800000 in
theorem plainR (c : Int) (w : World) : Calls Try.prog 43 #[.int .u8 c] w fun e w' => e = .returned (.bool (pl c)) ∧ w = w' := by
  go_enter Try.func43, Try.ntmps43
  go_wp2
  all_goals first
    | (have hp : pl c = true := by (unfold pl; exact decide_eq_true (by omega))
       rw [hp]; go_ret; exact ⟨rfl, rfl⟩)
    | (go_ret; exact ⟨rfl, rfl⟩)
    | (go_ret
       refine ⟨congrArg (fun b => Ending.returned (Value.bool b)) ?_, rfl⟩
       rw [Bool.eq_iff_iff]; simp [pl]; omega)

end Go.Proofs.Ytgiepgbjkkhniaa
