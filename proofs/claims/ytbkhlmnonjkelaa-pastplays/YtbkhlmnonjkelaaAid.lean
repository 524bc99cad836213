/-
  What the walks of PastThere, PastFull, PastPlays share.
-/
import Derived.Test.YtbkhlmnonjkelaaRuns
import Derived.Test.YtbkhlmnonjkelaaOrd
import Derived.Laws.BytesArg
namespace Go.Proofs.Ytbkhlmnonjkelaa
open Go.RowKit Go.PlainAid
set_option maxRecDepth 100000

theorem within_nat (n : Int) (hi : Nat) (w : World) (h2 : hi ≤ 1000) :
    Calls Try.prog 23 #[.int .i64 n, .int .i64 0, .int .i64 hi] w fun e w' => (∃ r : Nat, r ≤ hi ∧ e = .returned (.int .i64 r)) ∧ w' = w := by
  refine (within_any n 0 hi w (by omega) (by omega) (by omega)).mono ?_
  rintro e w' ⟨⟨r, h0, h1, he⟩, hw⟩
  exact ⟨⟨r.toNat, by omega, by rw [he, Int.toNat_of_nonneg h0]⟩, hw.symm⟩

/-- the text of a new slice of one byte -/
theorem one_text (w : World) (x : Int) : ∃ s1 : ByteArray, (convert 51 9 (.slice (some ⟨w.heap.size, 0, none⟩) 1 1)).run Try.prog (w.alloc (.cells #[.int .u8 x] 5 (0, 0))) = .ok (.string s1) (w.alloc (.cells #[.int .u8 x] 5 (0, 0))) := by
  refine ⟨_, run_convert_bytes_arg (w.alloc (.cells #[.int .u8 x] 5 (0, 0))) 51 5 Try.underlying51 Try.underlying5 w.heap.size 0 1 1 [x] rfl ?_ 9 Try.underlying9⟩
  intro i hi
  obtain rfl : i = 0 := by omega
  rw [blk_cell (blk_new _ _)]
  rfl

/-- entries that are read, not in block b -/
def Ex (b : Nat) (w : World) (v : Value) (l : List En) : Prop := Es w v l ∧ ∀ (a : Addr) n c, v = .slice (some a) n c → a.block ≠ b
theorem Ex.kp {b : Nat} {w w' : World} {v : Value} {l : List En} (h : Ex b w v l) (hk : Kp (fun i => i = b) w w') : Ex b w' v l := by
  obtain ⟨⟨A, c, h1, h2, h3, h4⟩, h5⟩ := h
  refine ⟨⟨A, c, h1, h2, h3, fun i hi => ?_⟩, h5⟩
  obtain ⟨x, o, rfl, c1, c2⟩ := h4 i hi
  have hne : x ≠ b := h5 _ _ _ h1
  exact ⟨x, o, rfl, by rw [hk.cell (World.block_lt_of_cell? w _ c1) hne]; exact c1, by rw [hk.cell (World.block_lt_of_cell? w _ c2) hne]; exact c2⟩
theorem Ex.call {b : Nat} {w w' : World} {v : Value} {l : List En} (h : Ex b w v l) (hb : Below w.heap.size w w') : Ex b w' v l := h.kp (Kp.of_below hb _)
theorem OwnE.ex {B b : Nat} {w0 w : World} {v : Value} {l : List En} (h : OwnE B w0 v l w) (hb : b < B) : Ex b w v l := by
  refine ⟨h.es, fun a n c e => ?_⟩
  have := h.1.lt
  subst e
  have := (this a.block rfl).1
  omega

theorem ex_cells {b : Nat} {w : World} {A : Option Addr} {n c : Nat} {g : Nat → En} (h : Ex b w (.slice A n c) (lis g n)) (hn : 0 < n) :
    ∃ D o, A = some ⟨D, o, none⟩ ∧ ∀ j, j < n → w.cell? ⟨D, o + j * 2, none⟩ = some (.string (g j).1) ∧ w.cell? ⟨D, o + j * 2 + 1, none⟩ = some (.int .u64 (g j).2) := by
  obtain ⟨⟨A', c', e1, _, _, h4⟩, _⟩ := h
  rw [lis_len] at h4 e1
  cases e1
  obtain ⟨D, o, rfl, _⟩ := h4 0 hn
  refine ⟨D, o, rfl, fun j hj => ?_⟩
  obtain ⟨D', o', e2, k1, k2⟩ := h4 j hj
  cases e2
  rw [lis_get g _ j hj] at k1 k2
  exact ⟨k1, k2⟩
theorem Ex.shape {b : Nat} {w : World} {v : Value} {g : Nat → En} {n : Nat} (h : Ex b w v (lis g n)) : ∃ A c, v = .slice A n c ∧ n ≤ c := by
  obtain ⟨⟨A, c, e, h2, _⟩, _⟩ := h
  rw [lis_len] at e h2
  exact ⟨A, c, e, h2⟩
/-- the first some -/
theorem Ex.take {b : Nat} {w : World} {A : Option Addr} {n c : Nat} {g : Nat → En} (h : Ex b w (.slice A n c) (lis g n)) (k : Nat) (hk : k ≤ n) : Ex b w (.slice A k c) (lis g k) := by
  obtain ⟨⟨A', c', e1, h2, h3, h4⟩, h5⟩ := h
  rw [lis_len] at h2 h4 e1
  cases e1
  refine ⟨⟨A, c, by rw [lis_len], by rw [lis_len]; omega, h3, fun i hi => ?_⟩, fun a n' c' e => ?_⟩
  · rw [lis_len] at hi
    obtain ⟨D, o, e, k1, k2⟩ := h4 i (by omega)
    rw [lis_get g _ i (by omega)] at k1 k2
    rw [lis_get g _ i hi]
    exact ⟨D, o, e, k1, k2⟩
  · cases e
    exact h5 a n c rfl
theorem lis_congr {g f : Nat → En} {n : Nat} (h : ∀ i, i < n → g i = f i) : lis g n = lis f n := by
  apply List.map_congr_left
  intro i hi
  exact h i (by simpa using hi)
end Go.Proofs.Ytbkhlmnonjkelaa
