/-
  []byte(a), in a block of the call's own, stored into byte by byte.
-/
import Derived.Test.YthaabaifhcjpnaaRuns
import Derived.Test.YthaabaifhcjpnaaLow
import Derived.Laws.IdiomStrings
namespace Go.Proofs.Ythaabaifhcjpnaa
open Go.RowKit Go.PlainAid

/-- block Q holds f's first n bytes, and may be written there -/
def Rw (Q n : Nat) (f : Nat → Int) (w : World) : Prop :=
  ∃ (C : Array Value) (m : Nat), w.heap[Q]? = some (.cells C 5 (m, m + 1)) ∧ n ≤ m ∧ n ≤ C.size ∧ ∀ j, j < n → C[j]? = some (.int .u8 (f j))

theorem Rw.new (w : World) (a : ByteArray) (cap : Nat) (hc : a.size ≤ cap) :
    Rw w.heap.size a.size (bt a) ((w.alloc (.cells (bytesRow a cap) 5 ((bytesRow a cap).size, (bytesRow a cap).size + 1))).drew) := by
  have hz : (bytesRow a cap).size = cap := by
    unfold bytesRow
    simp
    omega
  refine ⟨bytesRow a cap, (bytesRow a cap).size, heap_alloc_new w _, by omega, by omega, ?_⟩
  intro j hj
  have h := bytesRow_at a cap j hj
  rw [h, ← get_bt a j hj]
  rfl
theorem Rw.cell {Q n : Nat} {f : Nat → Int} {w : World} (h : Rw Q n f w) {j : Nat} (hj : j < n) : w.cell? ⟨Q, j, none⟩ = some (.int .u8 (f j)) := by
  obtain ⟨C, m, hb, _, _, hc⟩ := h
  unfold World.cell?
  rw [hb]
  simp only
  exact hc j hj
theorem Rw.free {Q n : Nat} {f : Nat → Int} {w : World} (h : Rw Q n f w) {j : Nat} (hj : j < n) : w.frozen? ⟨Q, j, none⟩ = false := by
  obtain ⟨C, m, hb, hm, _, hc⟩ := h
  unfold World.frozen?
  rw [hb]
  simp
  omega
theorem Rw.congr {Q n : Nat} {f g : Nat → Int} {w : World} (h : Rw Q n f w) (e : ∀ j, j < n → f j = g j) : Rw Q n g w := by
  obtain ⟨C, m, hb, hm, hs, hc⟩ := h
  exact ⟨C, m, hb, hm, hs, fun j hj => by rw [hc j hj, e j hj]⟩
theorem Rw.set {Q n : Nat} {f : Nat → Int} {w : World} (h : Rw Q n f w) (k : Nat) (x : Int) : Rw Q n (fun j => if j = k then x else f j) (w.setCell ⟨Q, k, none⟩ (.int .u8 x)) := by
  obtain ⟨C, m, hb, hm, hs, hc⟩ := h
  refine ⟨C.setIfInBounds k (.int .u8 x), m, ?_, hm, by simpa using hs, ?_⟩
  · have hlt : Q < w.heap.size := (Array.getElem?_eq_some_iff.1 hb).1
    unfold World.setCell
    simp only [Array.getElem?_modify, hb]
    simp
  · intro j hj
    rw [Array.getElem?_setIfInBounds]
    by_cases e : k = j
    · subst e
      have : k < C.size := by omega
      simp [this]
    · have e' : ¬ j = k := fun t => e t.symm
      rw [if_neg e, hc j hj]
      simp [e']
theorem Rw.text {Q n : Nat} {f : Nat → Int} {w : World} (h : Rw Q n f w) (l : List Int) (hl : l.length = n) (hf : ∀ j, j < n → l.getD j 0 = f j) (cap : Nat) : (convert 27 9 (.slice (some ⟨Q, 0, none⟩) n cap)).run Try.prog w = .ok (.string (st l)) w := by
  refine run_convert_bytes_arg w 27 5 Try.underlying27 Try.underlying5 Q 0 n cap l hl ?_ 9 Try.underlying9
  intro i hi
  rw [Nat.zero_add, h.cell hi, hf i hi]
end Go.Proofs.Ythaabaifhcjpnaa
