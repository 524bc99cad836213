/-
  A block of entries that the call fills; porticobook.Roomy and Intact at entries.
-/
import Derived.Test.YtbkhlmnonjkelaaAid
namespace Go.Proofs.Ytbkhlmnonjkelaa
open Go.RowKit Go.PlainAid
set_option maxRecDepth 100000

/-- the first N entries of block T -/
def Rk (w : World) (T N : Nat) (f : Nat → En) : Prop :=
  ∃ cs, w.heap[T]? = some (.cells cs 28 (0, 0)) ∧ N * 2 ≤ cs.size ∧ ∀ i, i < N → cs[i * 2]? = some (.string (f i).1) ∧ cs[i * 2 + 1]? = some (.int .u64 (f i).2)

section
variable {w : World} {T N : Nat} {f : Nat → En}
theorem Rk.lt (h : Rk w T N f) : T < w.heap.size := by
  obtain ⟨cs, h1, _⟩ := h
  exact blk_lt h1
theorem Rk.of_block {w' : World} (h : Rk w T N f) (hb : w'.heap[T]? = w.heap[T]?) : Rk w' T N f := by
  obtain ⟨cs, h1, h2⟩ := h
  exact ⟨cs, hb.trans h1, h2⟩
theorem Rk.call {w' : World} (h : Rk w T N f) (hb : Below w.heap.size w w') : Rk w' T N f := h.of_block (hb.block T h.lt)
theorem Rk.alloc (h : Rk w T N f) (o : Obj) : Rk (w.alloc o) T N f := h.of_block (Below.heap_alloc w o T h.lt)
theorem Rk.drew (h : Rk w T N f) : Rk w.drew T N f := h.of_block rfl
theorem Rk.txt (h : Rk w T N f) (k : Nat) (hk : k < N) : w.cell? ⟨T, k * 2, none⟩ = some (.string (f k).1) := by
  obtain ⟨cs, h1, _, h3⟩ := h
  rw [blk_cell h1, (h3 k hk).1]
theorem Rk.scr (h : Rk w T N f) (k : Nat) (hk : k < N) : w.cell? ⟨T, k * 2 + 1, none⟩ = some (.int .u64 (f k).2) := by
  obtain ⟨cs, h1, _, h3⟩ := h
  rw [blk_cell h1, (h3 k hk).2]
theorem Rk.fro (h : Rk w T N f) (o : Nat) : w.frozen? ⟨T, o, none⟩ = false := by
  obtain ⟨cs, h1, _⟩ := h
  exact blk_frozen h1 o
theorem Rk.setTxt (h : Rk w T N f) (k : Nat) (hk : k < N) (s : ByteArray) : Rk (w.setCell ⟨T, k * 2, none⟩ (.string s)) T N (putE f k (s, (f k).2)) := by
  obtain ⟨cs, h1, h2, h3⟩ := h
  refine ⟨_, blk_setCell h1 (k * 2) _, by simpa using h2, fun i hi => ?_⟩
  rw [Array.getElem?_setIfInBounds_ne (i := k * 2) (j := i * 2 + 1) (by omega)]
  unfold putE
  by_cases e : i = k
  · subst e
    rw [Array.getElem?_setIfInBounds_self_of_lt (by omega)]
    simp only [if_true]
    exact ⟨trivial, (h3 i hi).2⟩
  · rw [Array.getElem?_setIfInBounds_ne (by omega), if_neg e]
    exact h3 i hi
theorem Rk.setScr (h : Rk w T N f) (k : Nat) (hk : k < N) (x : Int) : Rk (w.setCell ⟨T, k * 2 + 1, none⟩ (.int .u64 x)) T N (putE f k ((f k).1, x)) := by
  obtain ⟨cs, h1, h2, h3⟩ := h
  refine ⟨_, blk_setCell h1 (k * 2 + 1) _, by simpa using h2, fun i hi => ?_⟩
  rw [Array.getElem?_setIfInBounds_ne (i := k * 2 + 1) (j := i * 2) (by omega)]
  unfold putE
  by_cases e : i = k
  · subst e
    rw [Array.getElem?_setIfInBounds_self_of_lt (by omega)]
    simp only [if_true]
    exact ⟨(h3 i hi).1, trivial⟩
  · rw [Array.getElem?_setIfInBounds_ne (by omega), if_neg e]
    exact h3 i hi
theorem Rk.setEnt (h : Rk w T N f) (k : Nat) (hk : k < N) (s : ByteArray) (x : Int) : Rk ((w.setCell ⟨T, k * 2, none⟩ (.string s)).setCell ⟨T, k * 2 + 1, none⟩ (.int .u64 x)) T N (putE f k (s, x)) := by
  have := (h.setTxt k hk s).setScr k hk x
  rw [putE_putE] at this
  simpa [putE] using this
theorem Rk.congr {f' : Nat → En} (h : Rk w T N f) (he : ∀ i, i < N → f i = f' i) : Rk w T N f' := by
  obtain ⟨cs, h1, h2, h3⟩ := h
  exact ⟨cs, h1, h2, fun i hi => by rw [← he i hi]; exact h3 i hi⟩
theorem Rk.es (h : Rk w T N f) (n c : Nat) (hn : n ≤ N) (hc : n ≤ c) : Es w (.slice (some ⟨T, 0, none⟩) n c) (lis f n) := by
  refine ⟨some ⟨T, 0, none⟩, c, by rw [lis_len], by rw [lis_len]; exact hc, (fun e => by cases e), fun i hi => ⟨T, 0, rfl, ?_⟩⟩
  rw [lis_len] at hi
  rw [lis_get f n i hi, Nat.zero_add]
  exact ⟨h.txt i (by omega), h.scr i (by omega)⟩
theorem OwnE.rk {B : Nat} {w0 : World} {n c : Nat} {l : List En} (h : OwnE B w0 (.slice (some ⟨T, 0, none⟩) n c) l w) : Rk w T l.length (fun i => l.getD i default) := by
  obtain ⟨hl, ⟨e, _⟩ | ⟨g, cap, cur, e, _, hg, hn, _, hz, ht⟩⟩ := h.1
  · cases e
  · cases e
    refine ⟨cur, hg, by rw [hz]; omega, fun i hi => ?_⟩
    have hat := enC_at l i hi
    rw [← ht, List.getElem?_take_of_lt (by omega), List.getElem?_take_of_lt (by omega)] at hat
    simpa using hat
end

/-- make([]Entry, n) -/
theorem wpList_mkN {ops : Array Oper} {rest : List Oper} {o : Oper} {a : Act} {Q : Exit → Act → World → Prop} (w : World) (hg : o.guard = none) (l c : Operand) (hop : o.op = Op.makeSlice 32 l c)
    (n : Nat) (hl : a.eval l = .int .i64 (n : Int)) (hc : a.eval c = .int .i64 (n : Int)) (hn : n ≤ 1000000)
    (hK : ∀ w', Rk w' w.heap.size n (fun _ => (⟨#[]⟩, 0)) → Below w.heap.size w w' → wpList Try.prog ops Q rest (a.put o.dst (.slice (some ⟨w.heap.size, 0, none⟩) n n)) w') : wpList Try.prog ops Q (o :: rest) a w := by
  obtain ⟨i0, hi, hz0, hz1, hz2⟩ := info_parts info28
  refine wpList_plain hg fun K hK' => ?_
  have hrun := run_make (P := Try.prog) w 32 28 i0 _ Try.underlying32 hi hz0 .i64 .i64 (n : Int) (n : Int) (by omega) (Int.le_refl _) (by rw [hz2]; omega) (by omega)
  simp only [Int.toNat_natCast] at hrun
  unfold Oper.wp
  simp [execOp, hop, hl, hc, hrun, Result.andThen]
  refine hK' _ _ (hK _ ⟨_, blk_new w _, ?_, fun i hi => ?_⟩ ((Below.refl _ w).alloc (Nat.le_refl _) _))
  · rw [size_madeCells, hz1]
    exact Nat.le_refl _
  · have e0 : i * 2 % 2 = 0 := by omega
    have e1 : (i * 2 + 1) % 2 = 1 := by omega
    have l0 : i * 2 < n * 2 := by omega
    have l1 : i * 2 + 1 < n * 2 := by omega
    rw [hz1]
    constructor
    · simp [madeCells, Value.cells, e0, l0]
    · simp [madeCells, Value.cells, e1, l1]

/-- copy of a slice of entries to a block's beginning -/
theorem wpList_cpN {ops : Array Oper} {rest : List Oper} {o : Oper} {a : Act} {Q : Exit → Act → World → Prop} (w : World) (hgd : o.guard = none) (d s : Operand)
    (ho : o.op = .call { callee := .builtin .copy, args := #[d, s], argTypes := #[32, 32] })
    (T N dc m c : Nat) (ad : Addr) (f : Nat → En) (l : List En) (hd : a.eval d = .slice (some ⟨T, 0, none⟩) N dc) (hs : a.eval s = .slice (some ad) m c) (hT : Rk w T N f) (hr : Es w (.slice (some ad) m c) l) (hm : m ≤ N)
    (h : ∀ w', Rk w' T N (fun i => if i < l.length then l.getD i default else f i) → Kp (fun i => i = T) w w' → wpList Try.prog ops Q rest (a.put o.dst (goInt m)) w') : wpList Try.prog ops Q (o :: rest) a w := by
  obtain ⟨i0, hi, hz0, hz1, hz2⟩ := info_parts info28
  obtain ⟨A', c', e, h2, h3, h4⟩ := hr
  cases e
  obtain ⟨cs, hc1, hc2, hc3⟩ := hT
  have hload : (loadCells ad (l.flatMap enC).length).run Try.prog w = .ok (l.flatMap enC).toArray w := by
    refine run_loadCells_list (P := Try.prog) w ad (l.flatMap enC) (fun j u hu => ?_)
    have hj : j < l.length * 2 := by
      have := (List.getElem?_eq_some_iff.1 hu).1
      rwa [enC_len] at this
    obtain ⟨b', o', e, k1, k2⟩ := h4 (j / 2) (by omega)
    cases e
    have hat := enC_at l (j / 2) (by omega)
    rw [Addr.add_lit]
    rcases Nat.mod_two_eq_zero_or_one j with hm | hm
    · rw [show j / 2 * 2 = j by omega] at k1 hat
      rw [k1, ← hat.1, hu]
    · rw [show o' + j / 2 * 2 + 1 = o' + j by omega] at k2
      rw [show j / 2 * 2 + 1 = j by omega] at hat
      rw [k2, ← hat.2, hu]
  have hst := run_storeCells_at (P := Try.prog) T 0 28 (l.flatMap enC) 0 cs w hc1 (by rw [enC_len]; omega) (enC_one l)
  rw [enC_len] at hload
  have hmin : min l.length N = l.length := Nat.min_eq_left hm
  have hF := enC_len l
  have hat := enC_at l
  generalize l.flatMap enC = F at *
  simp only [Nat.add_zero, List.take_zero, List.nil_append, Nat.zero_add] at hst
  refine wpList_plain hgd fun K hK' => ?_
  unfold Oper.wp
  simp [execOp, ho, resolve, invoke, builtin, hd, hs, Builtin.copy_, run_underlying Try.underlying32, Builtin.lenOf, Builtin.firstCells, sizeOf, typeInfo, hi, hz1, hload, hst, hmin, Result.andThen]
  refine hK' _ _ (h _ ⟨_, setRow_heap w T cs _ 28 (0, 0) hc1, ?_, fun i hi => ?_⟩ ⟨rfl, rfl, rfl, by simp, fun i _ hi => setRow_other w T i _ hi⟩)
  · simp
    omega
  · dsimp only
    simp only [List.getElem?_toArray]
    by_cases e : i < l.length
    · rw [if_pos e, List.getElem?_append_left (by omega), List.getElem?_append_left (by omega)]
      exact hat i e
    · have := hc3 i hi
      have key : ∀ (R : List Value) (j : Nat), F.length ≤ j → (F ++ R)[j]? = R[j - F.length]? := fun R j hj => List.getElem?_append_right hj
      rw [if_neg e, key _ _ (by omega), key _ _ (by omega), List.getElem?_drop, List.getElem?_drop]
      rw [show F.length + (i * 2 - F.length) = i * 2 by omega, show F.length + (i * 2 + 1 - F.length) = i * 2 + 1 by omega]
      simpa using this
end Go.Proofs.Ytbkhlmnonjkelaa
