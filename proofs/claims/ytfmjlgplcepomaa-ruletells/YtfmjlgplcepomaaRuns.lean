/-
  Chapter 9's runs, walked.
-/
import Derived.Test.YtfmjlgplcepomaaAll
namespace Go.Proofs.Ytfmjlgplcepomaa
open Go.RowKit Go.PlainAid
set_option maxRecDepth 100000

/-- a new block of flags -/
theorem bs_new {w : World} {b : Nat} {l : List Bool} {n : Nat} (h : w.heap[b]? = some (.cells (l.map Value.bool).toArray 4 (0, 0))) (hn : l.length = n) : Bs w (.slice (some ⟨b, 0, none⟩) n n) n (fun i => l.getD i false) := by
  subst hn
  refine ⟨_, _, rfl, Nat.le_refl _, (fun h => by cases h), fun i hi => ⟨b, 0, rfl, ?_⟩⟩
  rw [blk_cell h]
  simp [List.getD, hi]
/-- the chapter's rule -/
def loginR : Rl := ⟨4, 1, ⟨#[108, 111, 103, 105, 110]⟩⟩
theorem run_ask {W : World} {b : Nat} (hb : W.heap[b]? = some (.cells #[.bool true] 4 (0, 0))) :
    Calls Try.prog 7 #[.agg #[.int .i64 4, .int .i64 1, .string ⟨#[108, 111, 103, 105, 110]⟩], .slice (some ⟨b, 0, none⟩) 1 1] W fun e w' => e = .returned (.tuple #[.int .i64 2, .string ⟨#[108, 111, 103, 105, 110]⟩]) ∧ Below W.heap.size W w' :=
  ask7 loginR _ 1 _ W (bs_new (l := [true]) hb rfl)
theorem run_ask2 {W : World} {b : Nat} (hb : W.heap[b]? = some (.cells #[.bool false, .bool true] 4 (0, 0))) :
    Calls Try.prog 7 #[.agg #[.int .i64 4, .int .i64 1, .string ⟨#[108, 111, 103, 105, 110]⟩], .slice (some ⟨b, 0, none⟩) 2 2] W fun e w' => e = .returned (.tuple #[.int .i64 0, .string ⟨#[]⟩]) ∧ Below W.heap.size W w' :=
  ask7 loginR _ 2 _ W (bs_new (l := [false, true]) hb rfl)

set_option maxHeartbeats 1600000 in
theorem ruleRuns_any (w : World) : Calls Try.prog 3 #[] w fun e w' => e = .returned (.bool true) ∧ Below w.heap.size w w' := by
  have X0 := Lib.hid (blk_new w (.cells #[.int .i64 4, .int .i64 1, .string ⟨#[108, 111, 103, 105, 110]⟩] 23 (0, 0)))
  have B0 := Lib.hid ((Below.refl w.heap.size w).alloc (Nat.le_refl _) (.cells #[.int .i64 4, .int .i64 1, .string ⟨#[108, 111, 103, 105, 110]⟩] 23 (0, 0)))
  go_enter Try.func3, Try.ntmps3
  go_upto_region 2 with fail
  generalize w.alloc (.cells #[.int .i64 4, .int .i64 1, .string ⟨#[108, 111, 103, 105, 110]⟩] 23 (0, 0)) = w1 at *
  have c0 : w1.cell? ⟨w.heap.size, 0, none⟩ = some (.int .i64 4) := blk_cell X0.out 0
  have c1 : w1.cell? ⟨w.heap.size, 1, none⟩ = some (.int .i64 1) := blk_cell X0.out 1
  have c2 : w1.cell? ⟨w.heap.size, 2, none⟩ = some (.string ⟨#[108, 111, 103, 105, 110]⟩) := blk_cell X0.out 2
  have B1 := Lib.hid (B0.out.alloc B0.out.size (.cells #[.bool true] 4 (0, 0)))
  have X1 := Lib.hid (blk_alloc X0.out (.cells #[.bool true] 4 (0, 0)))
  go_upto_region 3 with (first | (go_at_call 7; refine (run_ask (blk_new w1 _)).mono ?_; rintro e w2 ⟨rfl, hb2⟩; have B2 := Lib.hid (B1.out.trans (hb2.mono B1.out.size)); have X2 := Lib.hid (blk_call X1.out hb2); clear hb2))
  clear c0 c1 c2
  have c0 : w2.cell? ⟨w.heap.size, 0, none⟩ = some (.int .i64 4) := blk_cell X2.out 0
  have c1 : w2.cell? ⟨w.heap.size, 1, none⟩ = some (.int .i64 1) := blk_cell X2.out 1
  have c2 : w2.cell? ⟨w.heap.size, 2, none⟩ = some (.string ⟨#[108, 111, 103, 105, 110]⟩) := blk_cell X2.out 2
  have B3 := Lib.hid (B2.out.alloc B2.out.size (.cells #[.bool false, .bool true] 4 (0, 0)))
  go_wp2_with (first | (go_at_call 7; refine (run_ask2 (blk_new w2 _)).mono ?_; rintro e w3 ⟨rfl, hb3⟩; have B4 := Lib.hid (B3.out.trans (hb3.mono B3.out.size)); clear hb3))
  go_ret
  exact ⟨rfl, B4.out⟩
end Go.Proofs.Ytfmjlgplcepomaa
