/-
  porticobook.Within from -1 on, porticokeep.last.
-/
import Derived.Test.YtnnmbpghkflepaaGreatDoorRec
import Derived.Test.YtnnmbpghkflepaaGreatDoorInts
import Derived.Test.YtnnmbpghkflepaaGreatDoorKeep
namespace Go.Proofs.YtnnmbpghkflepaaGreatDoor
open Go.RowKit Go.PlainAid
set_option maxRecDepth 100000

set_option maxHeartbeats 800000 in
theorem within1 (n : Int) (h : Nat) (w : World) (h1 : h ≤ 100000) :
    Calls Tryz.prog 26 #[.int .i64 n, .int .i64 (-1), .int .i64 h] w fun e w' => ∃ r : Int, -1 ≤ r ∧ r ≤ (h : Int) ∧ e = .returned (.int .i64 r) ∧ w' = w := by
  have b1 := Int.tmod_lt_of_pos n (show 0 < (h : Int) + 1 + 1 by omega)
  have b2 := Int.lt_tmod_of_pos n (show 0 < (h : Int) + 1 + 1 by omega)
  have e1 : (h : Int) - (-1) + 1 = (h : Int) + 1 + 1 := by omega
  by_cases hneg : n.tmod ((h : Int) + 1 + 1) < 0
  · go_enter Tryz.func26, Tryz.ntmps26
    go_wp2
    go_ret
    exact ⟨_, by omega, by omega, rfl, rfl⟩
  · go_enter Tryz.func26, Tryz.ntmps26
    go_wp2
    go_ret
    exact ⟨_, by omega, by omega, rfl, rfl⟩

/-- must it be last? -/
def lastB (l : List Sg) : Bool := l.any (fun g => decide (2 ≤ g.1))
set_option maxHeartbeats 800000 in
theorem last27 (v : Value) (l : List Sg) (w : World) (h : Gs w v l) (hl : l = [] ∨ ∃ g, l = [g]) :
    Calls Tryz.prog 27 #[v] w fun e w' => e = .returned (.bool (lastB l)) ∧ w' = w := by
  rcases hl with rfl | ⟨g, rfl⟩
  · obtain ⟨A, c, rfl, _⟩ := h
    go_enter Tryz.func27, Tryz.ntmps27
    go_wp2
    go_ret
    exact ⟨rfl, rfl⟩
  · obtain ⟨A, c, rfl, _, _, h4⟩ := h
    obtain ⟨b, o, rfl, c1, c2⟩ := h4 0 (by simp)
    have c1 : w.cell? ⟨b, o, none⟩ = some (.int .i64 g.1) := by simpa using c1
    have e : lastB [g] = decide (2 ≤ g.1) := by simp [lastB]
    rw [e]
    clear h4 c2 e
    by_cases hg : 2 ≤ g.1
    · rw [decide_eq_true hg]
      go_enter Tryz.func27, Tryz.ntmps27
      go_wp2
      go_ret
      exact ⟨rfl, rfl⟩
    · rw [decide_eq_false hg]
      go_enter Tryz.func27, Tryz.ntmps27
      go_wp2
      go_ret
      exact ⟨rfl, rfl⟩
end Go.Proofs.YtnnmbpghkflepaaGreatDoor
