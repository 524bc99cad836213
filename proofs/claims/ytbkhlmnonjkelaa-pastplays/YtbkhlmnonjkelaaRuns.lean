/-
  Chapter 11's runs: PastRuns returns true.
-/
import Derived.Test.YtbkhlmnonjkelaaSme
namespace Go.Proofs.Ytbkhlmnonjkelaa
open Go.RowKit Go.PlainAid
set_option maxRecDepth 100000

theorem Upd.below {b : Nat} {g : Nat → En} {last at_ B : Nat} {w0 w w' : World} (h : Upd b g last at_ w w') (hb : Below B w0 w) (hB : B ≤ w.heap.size) (hn : B ≤ b) : Below B w0 w' :=
  hb.trans (h.2.below hB (fun k hk e => by omega))
theorem pushE0 (g : Nat → En) (k i : Nat) (e : En) (h : i < k) : putE (cutE g k) k e i = g i := by
  unfold putE cutE
  rw [if_neg (by omega), if_pos h]
theorem pushE1 (g : Nat → En) (k : Nat) (e : En) : putE (cutE g k) k e k = e := by
  unfold putE
  rw [if_pos rfl]

set_option maxHeartbeats 3200000 in
theorem runs3 (w : World) : Calls Try.prog 3 #[] w fun e w' => e = .returned (.bool true) ∧ Below w.heap.size w w' := by
  go_enter Try.func3, Try.ntmps3
  go_wp2_with fail
  refine (new8 ⟨#[97]⟩ w).mono ?_
  rintro e w1 ⟨b, rfl, hb, h1, B1⟩
  have ga : newE ⟨#[97]⟩ 0 = (⟨#[97]⟩, 0) := rfl
  generalize newE ⟨#[97]⟩ = g1 at *
  go_wp2_with fail
  refine (push9_ok ⟨#[98]⟩ w1 h1 (by omega)).mono ?_
  rintro e w2 ⟨rfl, h2⟩
  have B2 := h2.below B1 B1.size hb
  replace h2 := h2.1
  have ga2 := (pushE0 g1 1 0 (⟨#[98]⟩, 0) (by omega)).trans ga
  generalize putE (cutE g1 (0 + 1)) (0 + 1) (⟨#[98]⟩, 0) = g2 at *
  clear h1 B1 ga
  go_wp2_with fail
  refine (push9_ok ⟨#[99]⟩ w2 h2 (by omega)).mono ?_
  rintro e w3 ⟨rfl, h3⟩
  have B3 := h3.below B2 B2.size hb
  replace h3 := h3.1
  have ga3 := (pushE0 g2 2 0 (⟨#[99]⟩, 0) (by omega)).trans ga2
  generalize putE (cutE g2 (0 + 1 + 1)) (0 + 1 + 1) (⟨#[99]⟩, 0) = g3 at *
  clear h2 B2 ga2
  go_wp2_with fail
  refine (go10_yes (-2) 0 w3 h3 (by omega) (by omega) (by decide) (by decide)).mono ?_
  rintro e w4 ⟨rfl, h4⟩
  have B4 := h4.below B3 B3.size hb
  replace h4 := h4.1
  clear h3 B3
  rw [ga3]
  have hx := blk_new w4 (.cells #[.string ⟨#[97]⟩, .int .u64 0] 28 (0, 0))
  have h5 := h4.alloc (.cells #[.string ⟨#[97]⟩, .int .u64 0] 28 (0, 0))
  have B5 := B4.alloc B4.size (.cells #[.string ⟨#[97]⟩, .int .u64 0] 28 (0, 0))
  have hne : w4.heap.size ≠ b := by have := h4.lt; omega
  have hge : w.heap.size ≤ w4.heap.size := B4.size
  go_wp2_with fail
  generalize w4.alloc (.cells #[.string ⟨#[97]⟩, .int .u64 0] 28 (0, 0)) = w5 at *
  generalize w4.heap.size = T at *
  clear h4 B4
  refine (push9_ok ⟨#[100]⟩ w5 h5 (by omega)).mono ?_
  rintro e w6 ⟨rfl, h6⟩
  have B6 := h6.below B5 B5.size hb
  have hx6 := (h6.2.block T (blk_lt hx) hne).trans hx
  replace h6 := h6.1
  have ga6 := (pushE0 g3 1 0 (⟨#[100]⟩, 0) (by omega)).trans ga3
  have gb6 := pushE1 g3 1 (⟨#[100]⟩, 0)
  generalize putE (cutE g3 (0 + 1)) (0 + 1) (⟨#[100]⟩, 0) = g6 at *
  clear h5 B5 ga3 hx
  go_wp2_with fail
  refine (go10_no 1 w6 h6 (by omega) (by omega) (by decide)).mono ?_
  rintro e w7 ⟨rfl, hb7⟩
  have B7 := B6.trans (hb7.mono B6.size)
  have h7 := h6.call hb7
  have hx7 := blk_call hx6 hb7
  clear h6 B6 hx6 hb7
  have h8 := h7.alloc (.cells #[.string ⟨#[]⟩, .int .u64 0] 28 (0, 0))
  have hx8 := blk_alloc hx7 (.cells #[.string ⟨#[]⟩, .int .u64 0] 28 (0, 0))
  have B8 := B7.alloc B7.size (.cells #[.string ⟨#[]⟩, .int .u64 0] 28 (0, 0))
  have x0 := blk_cell hx8 0
  have x1 := blk_cell hx8 1
  simp at x0 x1
  go_wp2_with fail
  generalize w7.alloc (.cells #[.string ⟨#[]⟩, .int .u64 0] 28 (0, 0)) = w8 at *
  clear h7 hx7 B7 hx8 x0 x1
  refine (entries12 w8 h8 (by omega)).mono ?_
  rintro e w9 ⟨v, rfl, hv⟩
  have hl : lis g6 (0 + 1 + 1) = [(⟨#[97]⟩, 0), (⟨#[100]⟩, 0)] := by
    show [g6 0, g6 1] = _
    rw [ga6, gb6]
  rw [hl] at hv
  have B9 := B8.trans (hv.2.1.mono B8.size)
  have h9 := h8.call hv.2.1
  have V9 := Lib.hid (hv.es.call ((Below.refl w9.heap.size w9).alloc (Nat.le_refl _) (.cells #[.string ⟨#[97]⟩, .int .u64 0, .string ⟨#[100]⟩, .int .u64 0] 28 (0, 0))))
  have N9 := Lib.hid (es_new (l := [(⟨#[97]⟩, 0), (⟨#[100]⟩, 0)]) (n := 2) (blk_new w9 (.cells #[.string ⟨#[97]⟩, .int .u64 0, .string ⟨#[100]⟩, .int .u64 0] 28 (0, 0))) rfl)
  have h10 := h9.alloc (.cells #[.string ⟨#[97]⟩, .int .u64 0, .string ⟨#[100]⟩, .int .u64 0] 28 (0, 0))
  have B10 := B9.alloc B9.size (.cells #[.string ⟨#[97]⟩, .int .u64 0, .string ⟨#[100]⟩, .int .u64 0] 28 (0, 0))
  clear hv h8 B8 hl h9 B9
  go_wp2_with fail
  generalize w9.alloc (.cells #[.string ⟨#[97]⟩, .int .u64 0, .string ⟨#[100]⟩, .int .u64 0] 28 (0, 0)) = w10 at *
  refine (same11 _ _ _ _ w10 V9.out N9.out (by simp)).mono ?_
  rintro e w11 ⟨rfl, hb11⟩
  have h11 := h10.call hb11
  have B11 := B10.trans (hb11.mono B10.size)
  have ht : decide ([((⟨#[97]⟩ : ByteArray), (0 : Int)), (⟨#[100]⟩, 0)] = [(⟨#[97]⟩, 0), (⟨#[100]⟩, 0)]) = true := by simp
  rw [ht]
  go_wp2_with fail
  refine (at13 w11 h11).mono ?_
  rintro e w12 ⟨rfl, rfl⟩
  go_wp2
  go_ret
  exact ⟨rfl, B11⟩
end Go.Proofs.Ytbkhlmnonjkelaa
