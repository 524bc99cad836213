/-
  Plain contracts: Same on two lists of ints, Within from nought on.
-/
import Derived.Test.YtnbkgpkgfolakaaTrap
import Derived.Deep.AppendLies
import Derived.IntWalk
import Derived.Deep.QuietTactic
import Derived.BigQuiet
namespace Go.Proofs.Ytnbkgpkgfolakaa
open Go.RowKit

set_option maxHeartbeats 400000 in
theorem same_cells (g h n c c' : Nat) (zs : Nat → Int) (w : World) (hn : n ≤ 10000) (hg : ∀ j, j < n → w.cell? ⟨g, j, none⟩ = some (.int .i64 (zs j))) (hh : ∀ j, j < n → w.cell? ⟨h, j, none⟩ = some (.int .i64 (zs j))) :
    Calls Try.prog 16 #[.slice (some ⟨g, 0, none⟩) n c, .slice (some ⟨h, 0, none⟩) n c'] w fun e w' => e = .returned (.bool true) ∧ ∃ k, w' = w.drewN k := by
  have HG := Lib.hid hg
  have HH := Lib.hid hh
  clear hg hh
  go_enter Try.func16, Try.ntmps16
  go_wp2
  go_loopw [5] (fun i wr => ∃ k m : Nat, k ≤ n ∧ i = .int .i64 k ∧ wr = w.drewN m) (fun i _ => n - (intOf i).toNat)
  case atStart => exact ⟨0, 0, Nat.zero_le _, rfl, rfl⟩
  case round =>
    obtain ⟨k, m, hk, rfl, rfl⟩ := hrel
    by_cases hlt : k < n
    · have c1 := HG.out k hlt
      have c2 := HH.out k hlt
      have i1 : (0 : Int) ≤ (k : Int) := by omega
      have i2 : (k : Int) < (n : Int) := by omega
      go_wp2
      go_quiet (fail)
      go_wp2
      exact ⟨⟨k + 1, m + nq, by omega, by go_num, rfl⟩, by simp [intOf]; omega⟩
    · go_wp2
      go_ret
      exact ⟨rfl, m, rfl⟩

/-- all of them are ints -/
def Ints (xs : List Value) : Prop := ∀ u ∈ xs, ∃ z, u = .int .i64 z

/-- two lists of the call's own that hold the same -/
theorem same_own (g h n c c' B B' : Nat) (xs : List Value) (w : World) (hn : n ≤ 10000) (hi : Ints xs) (hg : w.ownsRow B 3 1 (.slice (some ⟨g, 0, none⟩) n c) n xs) (hh : w.ownsRow B' 3 1 (.slice (some ⟨h, 0, none⟩) n c') n xs) :
    Calls Try.prog 16 #[.slice (some ⟨g, 0, none⟩) n c, .slice (some ⟨h, 0, none⟩) n c'] w fun e w' => e = .returned (.bool true) ∧ ∃ k, w' = w.drewN k := by
  have hl : xs.length = n := by simpa using hg.1
  have key : ∀ j, j < n → xs[j]? = some (.int .i64 (intOf (xs.getD j undef))) := by
    intro j hj
    have hj' : j < xs.length := by omega
    obtain ⟨z, hz⟩ := hi xs[j] (List.getElem_mem hj')
    simp [List.getD, hj', hz, intOf]
  refine same_cells g h n c c' (fun j => intOf (xs.getD j undef)) w hn (fun j hj => ?_) (fun j hj => ?_)
  · have := hg.cells rfl j _ (key j hj)
    rwa [Addr.add_lit, Nat.zero_add] at this
  · have := hh.cells rfl j _ (key j hj)
    rwa [Addr.add_lit, Nat.zero_add] at this

/-- Within(n, 0, h) -/
def wi (n h : Int) : Int := if n.tmod (h + 1) < 0 then n.tmod (h + 1) + h + 1 else n.tmod (h + 1)
theorem wi_bd (n h : Int) (hh : 0 ≤ h) : 0 ≤ wi n h ∧ wi n h ≤ h := by
  unfold wi
  have h1 := Int.tmod_lt_of_pos n (show 0 < h + 1 by omega)
  have h2 : -(h + 1) < n.tmod (h + 1) := by
    have := Int.lt_tmod_of_pos n (show 0 < h + 1 by omega)
    omega
  split <;> omega

set_option maxHeartbeats 400000 in
theorem within_any (n h : Int) (w : World) (h0 : 0 ≤ h) (h1 : h ≤ 1000) :
    Calls Try.prog 12 #[.int .i64 n, .int .i64 0, .int .i64 h] w fun e w' => e = .returned (.int .i64 (wi n h)) ∧ w = w' := by
  have b1 := Int.tmod_lt_of_pos n (show 0 < h + 1 by omega)
  have b2 := Int.lt_tmod_of_pos n (show 0 < h + 1 by omega)
  by_cases hneg : n.tmod (h + 1) < 0
  · have hw : Hid (wi n h = n.tmod (h + 1) + h + 1) := by unfold Hid wi; rw [if_pos hneg]
    go_enter Try.func12, Try.ntmps12
    go_wp2
    go_ret
    exact ⟨by rw [hw.out]; rfl, rfl⟩
  · have hw : Hid (wi n h = n.tmod (h + 1)) := by unfold Hid wi; rw [if_neg hneg]
    go_enter Try.func12, Try.ntmps12
    go_wp2
    go_ret
    exact ⟨by rw [hw.out]; rfl, rfl⟩
end Go.Proofs.Ytnbkgpkgfolakaa
