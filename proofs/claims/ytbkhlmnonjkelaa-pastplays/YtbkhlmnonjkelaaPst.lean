/-
  A past in memory: twelve entries, the last one's place, the place where one is.
-/
import Derived.Test.YtbkhlmnonjkelaaEnt
import Derived.Laws.CopyRow
import Derived.Lib.Hide
import Derived.StillTailTactics
namespace Go.Proofs.Ytbkhlmnonjkelaa
open Go.RowKit Go.PlainAid
set_option maxRecDepth 100000

/-- the cells of the past in block b -/
structure Pc (w : World) (b : Nat) (g : Nat → En) (last at_ : Nat) : Prop where
  ex : ∃ cs, w.heap[b]? = some (.cells cs 56 (0, 0)) ∧ cs.size = 26 ∧ (∀ i, i < 12 → cs[i * 2]? = some (.string (g i).1) ∧ cs[i * 2 + 1]? = some (.int .u64 (g i).2)) ∧ cs[24]? = some (.int .i64 last) ∧ cs[25]? = some (.int .i64 at_)

def putE (g : Nat → En) (k : Nat) (e : En) : Nat → En := fun i => if i = k then e else g i
def cutE (g : Nat → En) (k : Nat) : Nat → En := fun i => if i < k then g i else (⟨#[]⟩, 0)

section
variable {w : World} {b : Nat} {g : Nat → En} {last at_ : Nat}
theorem Pc.lt (h : Pc w b g last at_) : b < w.heap.size := by
  obtain ⟨cs, h1, _⟩ := h.ex
  exact blk_lt h1
theorem Pc.c24 (h : Pc w b g last at_) : w.cell? ⟨b, 24, none⟩ = some (.int .i64 last) := by
  obtain ⟨cs, h1, h2, h3, h4, h5⟩ := h.ex
  rw [blk_cell h1, h4]
theorem Pc.c25 (h : Pc w b g last at_) : w.cell? ⟨b, 25, none⟩ = some (.int .i64 at_) := by
  obtain ⟨cs, h1, h2, h3, h4, h5⟩ := h.ex
  rw [blk_cell h1, h5]
theorem Pc.txt (h : Pc w b g last at_) (k : Nat) (hk : k < 12) : w.cell? ⟨b, k * 2, none⟩ = some (.string (g k).1) := by
  obtain ⟨cs, h1, h2, h3, h4, h5⟩ := h.ex
  rw [blk_cell h1, (h3 k hk).1]
theorem Pc.scr (h : Pc w b g last at_) (k : Nat) (hk : k < 12) : w.cell? ⟨b, k * 2 + 1, none⟩ = some (.int .u64 (g k).2) := by
  obtain ⟨cs, h1, h2, h3, h4, h5⟩ := h.ex
  rw [blk_cell h1, (h3 k hk).2]
theorem Pc.fro (h : Pc w b g last at_) (o : Nat) : w.frozen? ⟨b, o, none⟩ = false := by
  obtain ⟨cs, h1, _⟩ := h.ex
  exact blk_frozen h1 o
theorem Pc.of_block {w' : World} (h : Pc w b g last at_) (hb : w'.heap[b]? = w.heap[b]?) : Pc w' b g last at_ := by
  obtain ⟨cs, h1, h2⟩ := h.ex
  exact ⟨cs, hb.trans h1, h2⟩
theorem Pc.call {w' : World} (h : Pc w b g last at_) (hb : Below w.heap.size w w') : Pc w' b g last at_ := h.of_block (hb.block b h.lt)
theorem Pc.alloc (h : Pc w b g last at_) (o : Obj) : Pc (w.alloc o) b g last at_ := h.of_block (Below.heap_alloc w o b h.lt)
theorem Pc.drew (h : Pc w b g last at_) : Pc w.drew b g last at_ := h.of_block rfl
theorem Pc.set (h : Pc w b g last at_) (p : Addr) (hp : b ≠ p.block) (u : Value) : Pc (w.setCell p u) b g last at_ := h.of_block (Below.heap_setCell w p u b hp)
theorem Pc.setAt (h : Pc w b g last at_) (n : Nat) : Pc (w.setCell ⟨b, 25, none⟩ (.int .i64 n)) b g last n := by
  obtain ⟨cs, h1, h2, h3, h4, h5⟩ := h.ex
  refine ⟨_, blk_setCell h1 25 _, by simpa using h2, fun i hi => ?_, ?_, ?_⟩
  · rw [Array.getElem?_setIfInBounds_ne (by omega), Array.getElem?_setIfInBounds_ne (by omega)]
    exact h3 i hi
  · rw [Array.getElem?_setIfInBounds_ne (by omega)]
    exact h4
  · rw [Array.getElem?_setIfInBounds_self_of_lt (by omega)]
theorem Pc.setLast (h : Pc w b g last at_) (n : Nat) : Pc (w.setCell ⟨b, 24, none⟩ (.int .i64 n)) b g n at_ := by
  obtain ⟨cs, h1, h2, h3, h4, h5⟩ := h.ex
  refine ⟨_, blk_setCell h1 24 _, by simpa using h2, fun i hi => ?_, ?_, ?_⟩
  · rw [Array.getElem?_setIfInBounds_ne (by omega), Array.getElem?_setIfInBounds_ne (by omega)]
    exact h3 i hi
  · rw [Array.getElem?_setIfInBounds_self_of_lt (by omega)]
  · rw [Array.getElem?_setIfInBounds_ne (by omega)]
    exact h5
theorem Pc.setTxt (h : Pc w b g last at_) (k : Nat) (hk : k < 12) (s : ByteArray) : Pc (w.setCell ⟨b, k * 2, none⟩ (.string s)) b (putE g k (s, (g k).2)) last at_ := by
  obtain ⟨cs, h1, h2, h3, h4, h5⟩ := h.ex
  refine ⟨_, blk_setCell h1 (k * 2) _, by simpa using h2, fun i hi => ?_, ?_, ?_⟩
  · rw [Array.getElem?_setIfInBounds_ne (i := k * 2) (j := i * 2 + 1) (by omega)]
    unfold putE
    by_cases e : i = k
    · subst e
      rw [Array.getElem?_setIfInBounds_self_of_lt (by omega)]
      simp only [if_true]
      exact ⟨trivial, (h3 i hi).2⟩
    · rw [Array.getElem?_setIfInBounds_ne (by omega), if_neg e]
      exact h3 i hi
  · rw [Array.getElem?_setIfInBounds_ne (by omega)]
    exact h4
  · rw [Array.getElem?_setIfInBounds_ne (by omega)]
    exact h5
theorem Pc.setScr (h : Pc w b g last at_) (k : Nat) (hk : k < 12) (x : Int) : Pc (w.setCell ⟨b, k * 2 + 1, none⟩ (.int .u64 x)) b (putE g k ((g k).1, x)) last at_ := by
  obtain ⟨cs, h1, h2, h3, h4, h5⟩ := h.ex
  refine ⟨_, blk_setCell h1 (k * 2 + 1) _, by simpa using h2, fun i hi => ?_, ?_, ?_⟩
  · rw [Array.getElem?_setIfInBounds_ne (i := k * 2 + 1) (j := i * 2) (by omega)]
    unfold putE
    by_cases e : i = k
    · subst e
      rw [Array.getElem?_setIfInBounds_self_of_lt (by omega)]
      simp only [if_true]
      exact ⟨(h3 i hi).1, trivial⟩
    · rw [Array.getElem?_setIfInBounds_ne (by omega), if_neg e]
      exact h3 i hi
  · rw [Array.getElem?_setIfInBounds_ne (by omega)]
    exact h4
  · rw [Array.getElem?_setIfInBounds_ne (by omega)]
    exact h5
theorem putE_putE (g : Nat → En) (k : Nat) (e f : En) : putE (putE g k e) k f = putE g k f := by
  funext i
  unfold putE
  by_cases h : i = k <;> simp [h]
theorem Pc.setEnt (h : Pc w b g last at_) (k : Nat) (hk : k < 12) (s : ByteArray) (x : Int) : Pc ((w.setCell ⟨b, k * 2, none⟩ (.string s)).setCell ⟨b, k * 2 + 1, none⟩ (.int .u64 x)) b (putE g k (s, x)) last at_ := by
  have := (h.setTxt k hk s).setScr k hk x
  rw [putE_putE] at this
  simpa [putE] using this
end

theorem zero_at (n j : Nat) (hj : j < n) : (Builtin.zeroCells #[.string ⟨#[]⟩, .int .u64 0] n).toList[j * 2]? = some (.string ⟨#[]⟩) ∧ (Builtin.zeroCells #[.string ⟨#[]⟩, .int .u64 0] n).toList[j * 2 + 1]? = some (.int .u64 0) := by
  have e0 : j * 2 % 2 = 0 := by omega
  have e1 : (j * 2 + 1) % 2 = 1 := by omega
  have l0 : j * 2 < n * 2 := by omega
  have l1 : j * 2 + 1 < n * 2 := by omega
  constructor
  · simp [Builtin.zeroCells, e0, l0]
  · simp [Builtin.zeroCells, e1, l1]
theorem zero_one (n : Nat) : ∀ v ∈ (Builtin.zeroCells #[.string ⟨#[]⟩, .int .u64 0] n).toList, v.oneCell' = true := by
  intro v hv
  rw [List.mem_iff_getElem?] at hv
  obtain ⟨i, hi⟩ := hv
  have hl : i < n * 2 := by
    have := (List.getElem?_eq_some_iff.1 hi).1
    simpa [Builtin.zeroCells] using this
  rcases Nat.mod_two_eq_zero_or_one i with h | h
  · have := (zero_at n (i / 2) (by omega)).1
    rw [show i / 2 * 2 = i by omega, hi] at this
    cases this
    rfl
  · have := (zero_at n (i / 2) (by omega)).2
    rw [show i / 2 * 2 + 1 = i by omega, hi] at this
    cases this
    rfl

/-- clear of the entries from k on -/
theorem Pc.clear {w : World} {b : Nat} {g : Nat → En} {last at_ : Nat} (h : Pc w b g last at_) (k n c : Nat) (hk : k + n = 12) (hn : 0 < n) (ty : TypeId) :
    ∃ w', (Builtin.clear_ #[32] ty #[.slice (some ⟨b, k * 2, none⟩) n c]).run Try.prog w = .ok (.tuple #[]) w' ∧ Pc w' b (cutE g k) last at_ ∧ Kp (fun i => i = b) w w' := by
  obtain ⟨cs, h1, h2, h3, h4, h5⟩ := h.ex
  have hz : (Builtin.zeroCells #[.string ⟨#[]⟩, .int .u64 0] n).toList.length = n * 2 := by simp [Builtin.zeroCells]
  have hst := run_storeCells_at (P := Try.prog) b (k * 2) 56 (Builtin.zeroCells #[.string ⟨#[]⟩, .int .u64 0] n).toList 0 cs w h1 (by rw [hz]; omega) (zero_one n)
  simp only [Nat.add_zero, hz] at hst
  obtain ⟨m, rfl⟩ : ∃ m, n = m + 1 := ⟨n - 1, by omega⟩
  refine ⟨_, by simp only [Builtin.clear_]; simp [run_underlying Try.underlying32, Value.cells, hst]; rfl, ⟨_, setRow_heap w b cs _ 56 (0, 0) h1, ?_, ?_, ?_, ?_⟩, ?_⟩
  · simp [Builtin.zeroCells]; omega
  · intro i hi
    have ht : (cs.toList.take (k * 2)).length = k * 2 := by simp; omega
    simp only [List.getElem?_toArray]
    unfold cutE
    by_cases e : i < k
    · rw [List.getElem?_append_left (by rw [ht]; omega), List.getElem?_append_left (by rw [ht]; omega), List.getElem?_take_of_lt (by omega), List.getElem?_take_of_lt (by omega), if_pos e]
      simpa using h3 i hi
    · have key : ∀ (Z R : List Value) (j : Nat), Z.length = (m + 1) * 2 → k * 2 ≤ j → j < 24 → (cs.toList.take (k * 2) ++ (Z ++ R))[j]? = Z[j - k * 2]? := by
        intro Z R j hZ h1 h2
        rw [List.getElem?_append_right (by rw [ht]; omega), ht, List.getElem?_append_left (by omega)]
      rw [key _ _ _ hz (by omega) (by omega), key _ _ _ hz (by omega) (by omega), if_neg e]
      have := zero_at (m + 1) (i - k) (by omega)
      rw [show i * 2 - k * 2 = (i - k) * 2 by omega, show i * 2 + 1 - k * 2 = (i - k) * 2 + 1 by omega]
      exact this
  all_goals
    try
      simp only [List.getElem?_toArray]
      rw [List.getElem?_append_right (by simp; omega), List.getElem?_append_right (by rw [hz]; simp; omega), List.getElem?_drop]
      simp only [hz, List.length_take, Array.length_toList, h2]
      rw [show k * 2 + (m + 1) * 2 = 24 by omega, show min (k * 2) 26 = k * 2 by omega]
  · rw [show 24 + (24 - k * 2 - (m + 1) * 2) = 24 by omega]
    simpa using h4
  · rw [show 24 + (25 - k * 2 - (m + 1) * 2) = 25 by omega]
    simpa using h5
  · refine ⟨rfl, rfl, rfl, by simp, fun i _ hi => setRow_other w b i _ hi⟩
end Go.Proofs.Ytbkhlmnonjkelaa
