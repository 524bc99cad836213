/-
  Rows of trees and of bytes that make lays.
-/
import Derived.Test.YtolklphenllhpaaRuns
import Derived.Laws.MakeOwn
namespace Go.Proofs.Ytolklphenllhpaa
open Go.RowKit Go.PlainAid
set_option maxRecDepth 100000

theorem inf27 : (Try.prog.info? 27).map (fun i => (i.zero, i.size, i.bytes)) = some (some (.agg #[.string ⟨#[]⟩, .string ⟨#[]⟩, .string ⟨#[]⟩, .slice none 0 0, .slice none 0 0]), 5, 96) := by kernel_rfl
theorem inf5 : (Try.prog.info? 5).map (fun i => (i.zero, i.size, i.bytes)) = some (some (.int .u8 0), 1, 1) := by kernel_rfl
theorem inf_parts {e : TypeId} {z : Value} {s b : Nat} (h : (Try.prog.info? e).map (fun i => (i.zero, i.size, i.bytes)) = some (some z, s, b)) : ∃ i, Try.prog.info? e = some i ∧ i.zero = some z ∧ i.size = s ∧ i.bytes = b := by
  match h1 : Try.prog.info? e with
  | none => rw [h1] at h; cases h
  | some i =>
    rw [h1] at h
    simp only [Option.map_some, Option.some.injEq, Prod.mk.injEq] at h
    exact ⟨i, rfl, h.1, h.2.1, h.2.2⟩
/-- so many trees, all empty: their cells -/
def rowT (n : Nat) : Array Value := madeCells #[.string ⟨#[]⟩, .string ⟨#[]⟩, .string ⟨#[]⟩, .slice none 0 0, .slice none 0 0] (n * 5)
def rowB (n : Nat) : Array Value := madeCells #[.int .u8 0] n
theorem mkT (w : World) (n : Nat) (hn : n ≤ 1000) : (Instr.makeSlice 25 (.int .i64 (n : Int)) (.int .i64 (n : Int))).run Try.prog w = .ok (.slice (some ⟨w.heap.size, 0, none⟩) n n) (w.alloc (.cells (rowT n) 27 (0, 0))) := by
  obtain ⟨i0, hi, hz0, hz1, hz2⟩ := inf_parts inf27
  have hrun := run_make (P := Try.prog) w 25 27 i0 _ Try.underlying25 hi hz0 .i64 .i64 (n : Int) (n : Int) (by omega) (Int.le_refl _) (by rw [hz2]; omega) (by omega)
  simp only [Int.toNat_natCast, hz1] at hrun
  exact hrun
theorem mkB (w : World) (n : Nat) (hn : n ≤ 1000) : (Instr.makeSlice 42 (.int .i64 (n : Int)) (.int .i64 (n : Int))).run Try.prog w = .ok (.slice (some ⟨w.heap.size, 0, none⟩) n n) (w.alloc (.cells (rowB n) 5 (0, 0))) := by
  obtain ⟨i0, hi, hz0, hz1, hz2⟩ := inf_parts inf5
  have hrun := run_make (P := Try.prog) w 42 5 i0 _ Try.underlying42 hi hz0 .i64 .i64 (n : Int) (n : Int) (by omega) (Int.le_refl _) (by rw [hz2]; omega) (by omega)
  simp only [Int.toNat_natCast, hz1, Nat.mul_one] at hrun
  exact hrun
theorem rowT_at (n i : Nat) (hi : i < n) : (rowT n)[i * 5]? = some (.string ⟨#[]⟩) ∧ (rowT n)[i * 5 + 1]? = some (.string ⟨#[]⟩) ∧ (rowT n)[i * 5 + 2]? = some (.string ⟨#[]⟩) ∧ (rowT n)[i * 5 + 3]? = some (.slice none 0 0) ∧ (rowT n)[i * 5 + 4]? = some (.slice none 0 0) := by
  have e0 : i * 5 % 5 = 0 := by omega
  have e1 : (i * 5 + 1) % 5 = 1 := by omega
  have e2 : (i * 5 + 2) % 5 = 2 := by omega
  have e3 : (i * 5 + 3) % 5 = 3 := by omega
  have e4 : (i * 5 + 4) % 5 = 4 := by omega
  have l0 : i * 5 < n * 5 := by omega
  have l1 : i * 5 + 1 < n * 5 := by omega
  have l2 : i * 5 + 2 < n * 5 := by omega
  have l3 : i * 5 + 3 < n * 5 := by omega
  have l4 : i * 5 + 4 < n * 5 := by omega
  refine ⟨?_, ?_, ?_, ?_, ?_⟩
  · simp [rowT, madeCells, e0, l0]
  · simp [rowT, madeCells, e1, l1]
  · simp [rowT, madeCells, e2, l2]
  · simp [rowT, madeCells, e3, l3]
  · simp [rowT, madeCells, e4, l4]
theorem rowT_size (n : Nat) : (rowT n).size = n * 5 := size_madeCells _ _
/-- a tree over such a row -/
theorem row_tree {p : Nat → Prop} {w : World} {b n : Nat} {ty : TypeId} (g : Tx) (hb : w.heap[b]? = some (.cells (rowT n) ty (0, 0))) (hp : p b) (hn : n ≤ 1000000) :
    TrW p w (.agg #[.string g, .string ⟨#[]⟩, .string ⟨#[]⟩, .slice none 0 0, .slice (some ⟨b, 0, none⟩) n n]) (.mk g ⟨#[]⟩ ⟨#[]⟩ [] (List.replicate n tr0)) :=
  trw_same (at_nil _ _) (by simp) hn (Nat.le_refl _) hp hb (fun i hi => rowT_at n i hi) (trw_leaf (at_nil _ _) (by simp))
/-- the text of so many zero bytes -/
def zerT (n : Nat) : Tx := st (List.replicate n 0)
theorem zerT_size (n : Nat) : (zerT n).size = n := by unfold zerT; rw [st_size, List.length_replicate]
theorem mk_text (w : World) (n : Nat) : (convert 42 9 (.slice (some ⟨w.heap.size, 0, none⟩) n n)).run Try.prog (w.alloc (.cells (rowB n) 5 (0, 0))) = .ok (.string (zerT n)) (w.alloc (.cells (rowB n) 5 (0, 0))) := by
  refine run_convert_bytes_arg _ 42 5 Try.underlying42 Try.underlying5 w.heap.size 0 n n (List.replicate n 0) (by simp) ?_ 9 Try.underlying9
  intro i hi
  have e0 : i % 1 = 0 := by omega
  rw [Nat.zero_add, blk_cell (blk_new w _)]
  simp [rowB, madeCells, hi, e0]
/-- three trees that are the same, behind each other -/
theorem trw_three {p : Nat → Prop} {w : World} {b : Nat} {x0 x1 x2 x3 x4 : Value} {ty : TypeId} {t : Tr} (g : Tx) (hb : w.heap[b]? = some (.cells #[x0, x1, x2, x3, x4, x0, x1, x2, x3, x4, x0, x1, x2, x3, x4] ty (0, 0))) (hp : p b) (ht : TrW p w (.agg #[x0, x1, x2, x3, x4]) t) :
    TrW p w (.agg #[.string g, .string ⟨#[]⟩, .string ⟨#[]⟩, .slice none 0 0, .slice (some ⟨b, 0, none⟩) 3 3]) (.mk g ⟨#[]⟩ ⟨#[]⟩ [] (List.replicate 3 t)) :=
  trw_same (at_nil _ _) (by simp) (by omega) (Nat.le_refl _) hp hb (fun i hi => by
    have h3 : i = 0 ∨ i = 1 ∨ i = 2 := by omega
    rcases h3 with rfl | rfl | rfl <;> exact ⟨rfl, rfl, rfl, rfl, rfl⟩) ht
end Go.Proofs.Ytolklphenllhpaa
