/-
  Run over TrapCatches' two closures: what the log holds behind it.
-/
import Derived.Test.YtnbkgpkgfolakaaLog
namespace Go.Proofs.Ytnbkgpkgfolakaa
open Go.RowKit

theorem w2_size (w : World) : (w2 w).heap.size = w.heap.size + 2 := by simp [w2]
theorem cf13 (caps : Array Value) (w : World) : (callFunc 13 caps).run Try.prog w = .ok (.enter 13 caps) w := by simp [go_sem]
theorem cf15 (caps : Array Value) (w : World) : (callFunc 15 caps).run Try.prog w = .ok (.enter 15 caps) w := by simp [go_sem]

theorem w2_log {L B g n cap : Nat} {xs : List Value} {w : World} (h : LogAt L B g n cap xs w) : LogAt L B g n cap xs (w2 w) := h.kp (w2_kp w (fun _ => False)) (fun t => t) (fun t => t)
theorem intact_log {L B g n cap m : Nat} {xs ys : List Value} {w w1 : World} (h : LogAt L B g n cap xs w) (hl : Logged L B g m ys (w2 w) w1) : Intact w w1 := by
  obtain ⟨g', cap', hl, hk, hg⟩ := hl
  have hL := blk_lt h.var
  have hgl := h.lt
  have hs := w2_size w
  obtain ⟨i1, i2⟩ := intact_w2 w
  exact ⟨(hk.block w.heap.size (by omega) (by omega)).trans i1, (hk.block (w.heap.size + 1) (by omega) (by omega)).trans i2⟩

/-- behind Run's own last stores -/
theorem logged_run {L B g n cap m : Nat} {xs ys : List Value} {w w1 w' : World} (h : LogAt L B g n cap xs w) (hl : Logged L B g m ys (w2 w) w1) (hk : Kp (fun k => k = w.heap.size ∨ k = w.heap.size + 1) w1 w') : Logged L B g m ys w w' := by
  obtain ⟨g', cap', hl, hk1, hg⟩ := hl
  have hL := blk_lt h.var
  have hgl := h.lt
  have hs := w2_size w
  refine ⟨g', cap', hl.kp hk (by omega) (by omega), ?_, by omega⟩
  exact ((w2_kp w _).trans hk1 (fun i hi t => t)).trans hk (fun i hi t => by omega)

theorem run13 (L D E N A B g n cap d : Nat) (xs : List Value) (er at_ : Int) (note : ByteArray) (w : World) (h : LogAt L B g n cap xs w) (hd : d ≤ 20) (hn : n + d ≤ 1000)
    (hD : w.heap[D]? = some (.cells #[.int .i64 d] 3 (0, 0))) (hE : w.heap[E]? = some (.cells #[.int .i64 er] 22 (0, 0))) (hN : w.heap[N]? = some (.cells #[.string note] 9 (0, 0))) (hA : w.heap[A]? = some (.cells #[.int .i64 at_] 3 (0, 0))) :
    Calls Try.prog 7 #[.func (.func 13) #[] #[.pointer (some ⟨L, 0, none⟩), .pointer (some ⟨D, 0, none⟩), .pointer (some ⟨E, 0, none⟩), .pointer (some ⟨N, 0, none⟩), .pointer (some ⟨A, 0, none⟩)]] w fun e w' =>
      e = .returned (.tuple #[.agg #[.int .i64 er, .string note, .int .i64 at_], .bool false]) ∧ Logged L B g (n + (d + 1)) (xs ++ down d) w w' := by
  refine (run_thrown 13 _ er at_ note w (fun w1 => Logged L B g (n + (d + 1)) (xs ++ down d) (w2 w) w1) (cf13 _) ?_).mono ?_
  · refine (closure13 L D E N A B g n cap d xs er at_ note (w2 w) (w2_log h) hd hn (blk_cell (blk_alloc (blk_alloc hD _) _) 0) (blk_cell (blk_alloc (blk_alloc hE _) _) 0) (blk_cell (blk_alloc (blk_alloc hN _) _) 0) (blk_cell (blk_alloc (blk_alloc hA _) _) 0)).mono ?_
    rintro e w' ⟨rfl, hm⟩
    exact ⟨rfl, intact_log h hm, hm⟩
  · rintro e w' ⟨rfl, w1, hm, hk⟩
    exact ⟨rfl, logged_run h hm hk⟩

theorem run15 (L B g n cap : Nat) (xs : List Value) (w : World) (h : LogAt L B g n cap xs w) (hn : n ≤ 1000) :
    Calls Try.prog 7 #[.func (.func 15) #[] #[.pointer (some ⟨L, 0, none⟩)]] w fun e w' =>
      e = .returned (.tuple #[.agg #[.int .i64 0, .string ⟨#[]⟩, .int .i64 0], .bool true]) ∧ Logged L B g (n + 1) (xs ++ [.int .i64 (-5)]) w w' := by
  refine (run_ret 15 _ w (fun w1 => Logged L B g (n + 1) (xs ++ [.int .i64 (-5)]) (w2 w) w1) (cf15 _) ?_).mono ?_
  · refine (closure15 L B g n cap xs (w2 w) (w2_log h) hn).mono ?_
    rintro e w' ⟨rfl, hm⟩
    exact ⟨rfl, intact_log h hm, hm⟩
  · rintro e w' ⟨rfl, w1, hm, hk⟩
    exact ⟨rfl, logged_run h hm hk⟩
end Go.Proofs.Ytnbkgpkgfolakaa
