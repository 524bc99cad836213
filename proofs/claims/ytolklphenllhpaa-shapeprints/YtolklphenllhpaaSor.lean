/-
  slices.Sort and slices.Compact at rows of texts: none, one, or twice the same.
-/
import Derived.Test.YtolklphenllhpaaTag
import Derived.Lib.SliceRun
namespace Go.Proofs.Ytolklphenllhpaa
open Go.RowKit Go.PlainAid
set_option maxRecDepth 100000

set_option maxHeartbeats 3200000 in
theorem len45 (n : Nat) (hn : n ≤ 2) (w : World) : Calls Try.prog 45 #[.int .u64 n] w fun e w' => (∃ k : Int, e = .returned (.int .i64 k)) ∧ w' = w := by
  have h3 : n = 0 ∨ n = 1 ∨ n = 2 := by omega
  rcases h3 with rfl | rfl | rfl
  all_goals
    go_enter Try.func45, Try.ntmps45
    go_wp2
    go_ret
    exact ⟨⟨_, rfl⟩, rfl⟩
set_option maxHeartbeats 3200000 in
theorem len34 (n : Nat) (hn : n ≤ 2) (w : World) : Calls Try.prog 34 #[.int .u64 n] w fun e w' => (∃ k : Int, e = .returned (.int .i64 k)) ∧ w' = w := by
  go_enter Try.func34, Try.ntmps34
  go_wp2_with fail
  refine (len45 n hn w).mono ?_
  rintro e w' ⟨⟨k, rfl⟩, rfl⟩
  go_wp2
  go_ret
  exact ⟨⟨_, rfl⟩, rfl⟩
abbrev tX : Tx := ⟨#[120]⟩
set_option maxHeartbeats 3200000 in
theorem nan51 (w : World) : Calls Try.prog 51 #[.string tX] w fun e w' => e = .returned (.bool false) ∧ w' = w := by
  go_enter Try.func51, Try.ntmps51
  go_wp2
  go_ret
  exact ⟨rfl, rfl⟩
set_option maxHeartbeats 3200000 in
theorem less41 (w : World) : Calls Try.prog 41 #[.string tX, .string tX] w fun e w' => e = .returned (.bool false) ∧ w' = w := by
  go_enter Try.func41, Try.ntmps41
  go_wp2_with fail
  refine (nan51 w).mono ?_
  rintro e w' ⟨rfl, rfl⟩
  go_wp2
  go_ret
  exact ⟨rfl, rfl⟩
/-- none, one, or twice the same -/
def Few (w : World) (v : Value) (n : Nat) : Prop := ∃ A c, v = .slice A n c ∧ n ≤ c ∧ (n ≤ 1 ∨ (n = 2 ∧ ∃ g, A = some ⟨g, 0, none⟩ ∧ w.cell? ⟨g, 0, none⟩ = some (.string tX) ∧ w.cell? ⟨g, 1, none⟩ = some (.string tX)))
theorem Few.below {w w' : World} {v : Value} {n : Nat} (h : Few w v n) (hb : Below w.heap.size w w') : Few w' v n := by
  obtain ⟨A, c, e, hc, h1 | ⟨h2, g, hg, c0, c1⟩⟩ := h
  · exact ⟨A, c, e, hc, .inl h1⟩
  · exact ⟨A, c, e, hc, .inr ⟨h2, g, hg, by rw [hb.cell (World.block_lt_of_cell? w _ c0)]; exact c0, by rw [hb.cell (World.block_lt_of_cell? w _ c1)]; exact c1⟩⟩

set_option maxHeartbeats 12800000 in
theorem ins35 (v : Value) (n : Nat) (w : World) (h : Few w v n) : Calls Try.prog 35 #[v, .int .i64 0, .int .i64 n] w fun e w' => e = .returned (.tuple #[]) ∧ Below w.heap.size w w' := by
  obtain ⟨A, c, rfl, hc, h1 | ⟨rfl, g, rfl, c0, c1⟩⟩ := h
  · have h2 : n = 0 ∨ n = 1 := by omega
    rcases h2 with rfl | rfl
    all_goals
      go_enter Try.func35, Try.ntmps35
      go_wp2_with fail
      go_loopw [6] (fun p wr => p = .int .i64 1 ∧ wr = w) (fun _ _ => 0)
      case atStart => exact ⟨rfl, rfl⟩
      case round =>
        obtain ⟨rfl, rfl⟩ := hrel
        go_wp2
        refine bodyPost_end (results_none rfl _ _ _) rfl ?_
        exact ⟨rfl, Below.refl _ _⟩
  · go_enter Try.func35, Try.ntmps35
    go_wp2_with fail
    go_loopw [6] (fun p wr => (p = .int .i64 1 ∨ p = .int .i64 2) ∧ Below w.heap.size w wr) (fun p _ => 2 - (intOf p).toNat)
    case atStart => exact ⟨Or.inl rfl, Below.refl _ _⟩
    case round =>
      obtain ⟨rfl | rfl, BW⟩ := hrel
      · have k0 : wr.cell? ⟨g, 0, none⟩ = some (.string tX) := by rw [BW.cell (World.block_lt_of_cell? w _ c0)]; exact c0
        have k1 : wr.cell? ⟨g, 1, none⟩ = some (.string tX) := by rw [BW.cell (World.block_lt_of_cell? w _ c1)]; exact c1
        have B0 := Lib.hid BW
        clear BW c0 c1
        go_wp2_with fail
        go_loopw [7] (fun p wz => p = .int .i64 1 ∧ wz = wr) (fun _ _ => 0)
        case atStart => exact ⟨rfl, rfl⟩
        case round =>
          obtain ⟨rfl, rfl⟩ := hrel
          go_wp2_with fail
          have hw0 : IntKind.i64.wrap 0 = 0 := rfl
          go_quiet (first | (go_at_call 41; exact Calls.quiet_of_same (less41 _)))
          go_wp2_with fail
          exact ⟨⟨Or.inr rfl, belowN B0.out _⟩, by simp [intOf]⟩
      · clear c0 c1
        go_wp2
        refine bodyPost_end (results_none rfl _ _ _) rfl ?_
        exact ⟨rfl, BW⟩
set_option maxHeartbeats 12800000 in
theorem pdq33 (v : Value) (n : Nat) (k : Int) (w : World) (h : Few w v n) : Calls Try.prog 33 #[v, .int .i64 0, .int .i64 n, .int .i64 k] w fun e w' => e = .returned (.tuple #[]) ∧ Below w.heap.size w w' := by
  have H := Lib.hid h
  have hn : n = 0 ∨ n = 1 ∨ n = 2 := by
    obtain ⟨A, c, e, hc, h1 | ⟨h2, _⟩⟩ := h
    · omega
    · omega
  clear h
  rcases hn with rfl | rfl | rfl
  · go_enter Try.func33, Try.ntmps33
    go_wp2_with fail
    go_loopw [1, 2] (fun p1 p2 wr => p1 = .int .i64 0 ∧ p2 = .int .i64 (0 : Nat) ∧ wr = w) (fun _ _ _ => 0)
    case atStart => exact ⟨rfl, rfl, rfl⟩
    case round =>
      obtain ⟨rfl, rfl, rfl⟩ := hrel
      go_wp2_with fail
      refine (ins35 _ 0 _ H.out).mono ?_
      rintro e w5 ⟨rfl, hb5⟩
      go_wp2_with fail
      refine bodyPost_ret (results_none rfl _ _ _) rfl ?_
      exact ⟨rfl, hb5⟩
  · go_enter Try.func33, Try.ntmps33
    go_wp2_with fail
    go_loopw [1, 2] (fun p1 p2 wr => p1 = .int .i64 0 ∧ p2 = .int .i64 (1 : Nat) ∧ wr = w) (fun _ _ _ => 0)
    case atStart => exact ⟨rfl, rfl, rfl⟩
    case round =>
      obtain ⟨rfl, rfl, rfl⟩ := hrel
      go_wp2_with fail
      refine (ins35 _ 1 _ H.out).mono ?_
      rintro e w5 ⟨rfl, hb5⟩
      go_wp2_with fail
      refine bodyPost_ret (results_none rfl _ _ _) rfl ?_
      exact ⟨rfl, hb5⟩
  · go_enter Try.func33, Try.ntmps33
    go_wp2_with fail
    go_loopw [1, 2] (fun p1 p2 wr => p1 = .int .i64 0 ∧ p2 = .int .i64 (2 : Nat) ∧ wr = w) (fun _ _ _ => 0)
    case atStart => exact ⟨rfl, rfl, rfl⟩
    case round =>
      obtain ⟨rfl, rfl, rfl⟩ := hrel
      go_wp2_with fail
      refine (ins35 _ 2 _ H.out).mono ?_
      rintro e w5 ⟨rfl, hb5⟩
      go_wp2_with fail
      refine bodyPost_ret (results_none rfl _ _ _) rfl ?_
      exact ⟨rfl, hb5⟩
set_option maxHeartbeats 12800000 in
theorem sort31 (v : Value) (n : Nat) (w : World) (h : Few w v n) : Calls Try.prog 31 #[v] w fun e w' => e = .returned (.tuple #[]) ∧ Below w.heap.size w w' := by
  have H := Lib.hid h
  obtain ⟨A, c, rfl, hc, hn⟩ := h
  have hn : n = 0 ∨ n = 1 ∨ n = 2 := by
    rcases hn with h1 | ⟨h2, _⟩
    · omega
    · omega
  rcases hn with rfl | rfl | rfl
  · go_enter Try.func31, Try.ntmps31
    go_wp2_with fail
    refine (len34 0 (by omega) _).mono ?_
    rintro e w5 ⟨⟨k, rfl⟩, rfl⟩
    go_wp2_with fail
    refine (pdq33 _ 0 _ _ H.out).mono ?_
    rintro e w5 ⟨rfl, hb5⟩
    go_wp2_with fail
    refine bodyPost_end (results_none rfl _ _ _) rfl ?_
    exact ⟨rfl, hb5⟩
  · go_enter Try.func31, Try.ntmps31
    go_wp2_with fail
    refine (len34 1 (by omega) _).mono ?_
    rintro e w5 ⟨⟨k, rfl⟩, rfl⟩
    go_wp2_with fail
    refine (pdq33 _ 1 _ _ H.out).mono ?_
    rintro e w5 ⟨rfl, hb5⟩
    go_wp2_with fail
    refine bodyPost_end (results_none rfl _ _ _) rfl ?_
    exact ⟨rfl, hb5⟩
  · go_enter Try.func31, Try.ntmps31
    go_wp2_with fail
    refine (len34 2 (by omega) _).mono ?_
    rintro e w5 ⟨⟨k, rfl⟩, rfl⟩
    go_wp2_with fail
    refine (pdq33 _ 2 _ _ H.out).mono ?_
    rintro e w5 ⟨rfl, hb5⟩
    go_wp2_with fail
    refine bodyPost_end (results_none rfl _ _ _) rfl ?_
    exact ⟨rfl, hb5⟩
set_option maxHeartbeats 12800000 in
theorem compact_few (v : Value) (n : Nat) (w : World) (hn : n ≤ 1) (h : Few w v n) : Calls Try.prog 32 #[v] w fun e w' => e = .returned v ∧ Below w.heap.size w w' := by
  obtain ⟨A, c, rfl, hc, _⟩ := h
  have d0 : (n : Int) < 2 := by omega
  go_enter Try.func32, Try.ntmps32
  go_wp2
  go_ret
  exact ⟨rfl, Below.refl _ _⟩
set_option maxHeartbeats 12800000 in
theorem compact_two (g c : Nat) (cs : Array Value) (t : TypeId) (w : World) (hc : 2 ≤ c) (hg : w.heap[g]? = some (.cells cs t (0, 0))) (h0 : cs[0]? = some (.string tX)) (h1 : cs[1]? = some (.string tX)) :
    Calls Try.prog 32 #[.slice (some ⟨g, 0, none⟩) 2 c] w fun e w' => e = .returned (.slice (some ⟨g, 0, none⟩) 1 c) ∧ Kp (fun k => k = g) w w' := by
  have G := Lib.hid hg
  have c0 : w.cell? ⟨g, 0, none⟩ = some (.string tX) := by rw [blk_cell hg]; exact h0
  have c1 : w.cell? ⟨g, 1, none⟩ = some (.string tX) := by rw [blk_cell hg]; exact h1
  have hclr : ∀ ty q, (Builtin.clear_ #[47] ty #[.slice (some ⟨g, 1, none⟩) 1 (c - 1)]).run Try.prog (w.drewN q) = .ok (.tuple #[]) ((w.drewN q).setCells g 1 (List.replicate 1 (.string ⟨#[]⟩))) := fun ty q =>
    Lib.run_clear_slice (w.drewN q) 47 9 ty (.string ⟨#[]⟩) Try.underlying47 (fun w => by go_simp) rfl rfl g 1 1 (c - 1) (by omega) (fun j hj => by
      obtain rfl : j = 0 := by omega
      show (w.cell? ⟨g, 1, none⟩).isSome = true
      rw [c1]; rfl) (fun j hj => blk_frozen hg _)
  clear hg
  go_enter Try.func32, Try.ntmps32
  go_wp2_with fail
  go_loopw [3] (fun p wr => p = .int .i64 1 ∧ wr = w) (fun _ _ => 0)
  case atStart => exact ⟨rfl, rfl⟩
  case round =>
    obtain ⟨rfl, rfl⟩ := hrel
    have hw0 : IntKind.i64.wrap 0 = 0 := rfl
    go_wp2_with fail
    go_quiet (fail)
    go_wp2_with fail
    go_loopw [3, 5] (fun p3 p5 wz => p3 = .int .i64 1 ∧ p5 = .int .i64 1 ∧ wz = wr.drewN nq) (fun _ _ _ => 0)
    case atStart => exact ⟨rfl, rfl, rfl⟩
    case round =>
      obtain ⟨rfl, rfl, rfl⟩ := hrel
      go_wp2_with fail
      go_ret
      have K0 : Kp (fun k => k = g) wr (wr.drewN nq) := ⟨rfl, rfl, rfl, Nat.le_refl _, fun _ _ _ => rfl⟩
      have K1 : Kp (fun k => k = g) wr ((wr.drewN nq).setCell ⟨g, 1, none⟩ (.string ⟨#[]⟩)) := K0.setCell (p := ⟨g, 1, none⟩) (fun _ => rfl) (.string ⟨#[]⟩)
      exact ⟨rfl, K1⟩
end Go.Proofs.Ytolklphenllhpaa
