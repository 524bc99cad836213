/-
  New: a dom of its Root alone; the reference's too.
-/
import Derived.Test.YtdbnhpghemlkbaaApp
namespace Go.Proofs.Ytdbnhpghemlkbaa
open Go.RowKit Go.PlainAid Dm
set_option maxRecDepth 100000

/-- a dom that the call made -/
def NewD (M : Mo) (s : St) (w : World) (e : Ending) (w' : World) : Prop := ∃ D ro, e = .returned (.pointer (some ⟨D, 0, none⟩)) ∧ Dom M ro w' D s ∧ (∀ k, ro k ≠ 0 → w.heap.size ≤ k) ∧ Below w.heap.size w w'

theorem blk_new1 (w : World) (x y : Obj) : ((w.alloc x).alloc y).heap[w.heap.size + 1]? = some y := by
  have h := blk_new (w.alloc x) y
  have e : (w.alloc x).heap.size = w.heap.size + 1 := by simp
  rw [e] at h
  exact h
theorem dom_new (M : Mo) (w w' : World) (D N : Nat) (hne : D ≠ N) (hD : w'.heap[D]? = some (.cells #[.slice (some ⟨N, 0, none⟩) 2 2, .slice none 0 0] M.tD (0, 0)))
    (hN : w'.heap[N]? = some (.cells #[M.fst nd0, .string ⟨#[]⟩, .string ⟨#[]⟩, .string ⟨#[]⟩, .slice none 0 0, .int .i64 0, .slice none 0 0, M.fst (St.new.nd 1), .string ⟨#[114, 111, 111, 116]⟩, .string ⟨#[]⟩, .string ⟨#[]⟩, .slice none 0 0, .int .i64 0, .slice none 0 0] M.tN (0, 0)))
    (h1 : w.heap.size ≤ D) (h2 : w.heap.size ≤ N) (hb : Below w.heap.size w w') : NewD M St.new w (.returned (.pointer (some ⟨D, 0, none⟩))) w' := by
  refine ⟨D, fun k => if k = D then 1 else if k = N then 2 else 0, rfl, ⟨N, 2, .slice none 0 0, fun _ => .slice none 0 0, fun _ => .slice none 0 0, ?_⟩, fun k hk => ?_, hb⟩
  · refine ⟨by simp, hD, by simp [Ne.symm hne], ⟨_, hN, rfl, fun i hi j hj => ?_⟩, ⟨by show 2 ≤ 2; omega, by unfold maxLen; omega⟩, rowI_nil _ _ _, fun i hi => ?_, fun i hi => ?_, fun k hk => ?_⟩
    · have hi' : i ≤ 1 := hi
      rcases (show i = 0 ∨ i = 1 by omega) with rfl | rfl
      · rcases (show j = 0 ∨ j = 1 ∨ j = 2 ∨ j = 3 ∨ j = 4 ∨ j = 5 ∨ j = 6 by omega) with rfl | rfl | rfl | rfl | rfl | rfl | rfl <;> rfl
      · rcases (show j = 0 ∨ j = 1 ∨ j = 2 ∨ j = 3 ∨ j = 4 ∨ j = 5 ∨ j = 6 by omega) with rfl | rfl | rfl | rfl | rfl | rfl | rfl <;> rfl
    · have hi' : i ≤ 1 := hi
      rcases (show i = 0 ∨ i = 1 by omega) with rfl | rfl <;> exact ats_nil _ _
    · have hi' : i ≤ 1 := hi
      rcases (show i = 0 ∨ i = 1 by omega) with rfl | rfl <;> exact rowI_nil _ _ _
    · split at hk
      · rename_i e; subst e; exact blk_lt hD
      · split at hk
        · rename_i e; subst e; exact blk_lt hN
        · exact absurd rfl hk
  · simp only at hk
    split at hk
    · omega
    · split at hk
      · omega
      · exact absurd rfl hk

set_option maxHeartbeats 1600000 in
theorem new7 (w : World) : Calls Try.prog 7 #[] w (NewD mP St.new w) := by
  go_enter Try.func7, Try.ntmps7
  go_wp2_with fail
  go_ret
  refine dom_new mP w _ _ _ ?_ (blk_new1 w _ _) (blk_alloc (blk_new w _) _) ?_ ?_ ?_
  · simp
  · simp
  · omega
  · exact ((Below.refl _ w).alloc (Nat.le_refl _) _).alloc (by simp) _

set_option maxHeartbeats 1600000 in
theorem new17 (w : World) : Calls Try.prog 17 #[] w (NewD mR St.new w) := by
  go_enter Try.func17, Try.ntmps17
  go_wp2_with fail
  go_ret
  refine dom_new mR w _ _ _ ?_ (blk_new1 w _ _) (blk_alloc (blk_new w _) _) ?_ ?_ ?_
  · simp
  · simp
  · omega
  · exact ((Below.refl _ w).alloc (Nat.le_refl _) _).alloc (by simp) _
end Go.Proofs.Ytdbnhpghemlkbaa
