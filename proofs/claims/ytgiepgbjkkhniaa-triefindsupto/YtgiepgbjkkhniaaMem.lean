/-
  Rows that a variable in memory holds: as they grow. Blocks of two slices that are written.
-/
import Derived.Test.YtgiepgbjkkhniaaBase
namespace Go.Proofs.Ytgiepgbjkkhniaa
open Go.RowKit Go.PlainAid

theorem no_str {cs : Array Value} {A B : Option Addr} {n m c d i : Nat} {s : ByteArray} (h : cs = #[.slice A n c, .slice B m d]) (hc : cs[i]? = some (.string s)) : False := by
  subst h
  match i with
  | 0 => simp at hc
  | 1 => simp at hc
  | i + 2 => simp at hc
theorem set2_cell (w : World) (b : Nat) (x y : Value) (p : Addr) (hp : p.block ≠ b) : ((w.setCell ⟨b, 0, none⟩ x).setCell ⟨b, 1, none⟩ y).cell? p = w.cell? p := by
  rw [World.cell?_of_block (w := w.setCell ⟨b, 0, none⟩ x) (Below.heap_setCell _ _ _ _ hp), World.cell?_of_block (w := w) (Below.heap_setCell _ _ _ _ hp)]
/-- a block of two slices holds no text: it may be written -/
theorem Ss.set2 {w : World} {v : Value} {l : List ByteArray} (h : Ss w v l) {b : Nat} {A B : Option Addr} {n m c d : Nat} {t : TypeId} (hk : w.heap[b]? = some (.cells #[.slice A n c, .slice B m d] t (0, 0))) (x y : Value) : Ss ((w.setCell ⟨b, 0, none⟩ x).setCell ⟨b, 1, none⟩ y) v l := by
  obtain ⟨A', cap, h1, h2, h3, h4⟩ := h
  refine ⟨A', cap, h1, h2, h3, fun i hi => ?_⟩
  obtain ⟨b', o, ha, hc⟩ := h4 i hi
  refine ⟨b', o, ha, ?_⟩
  rw [set2_cell _ _ _ _ _ ?_]
  · exact hc
  · intro e
    have e : b' = b := e
    subst e
    rw [blk_cell hk] at hc
    exact no_str rfl hc
theorem Ps.set2 {w : World} {v : Value} {l : List Pr} (h : Ps w v l) {b : Nat} {A B : Option Addr} {n m c d : Nat} {t : TypeId} (hk : w.heap[b]? = some (.cells #[.slice A n c, .slice B m d] t (0, 0))) (x y : Value) : Ps ((w.setCell ⟨b, 0, none⟩ x).setCell ⟨b, 1, none⟩ y) v l := by
  obtain ⟨A', cap, h1, h2, h3, h4⟩ := h
  refine ⟨A', cap, h1, h2, h3, fun i hi => ?_⟩
  obtain ⟨b', o, ha, hc, hd⟩ := h4 i hi
  have hne : b' ≠ b := by
    intro e
    subst e
    rw [blk_cell hk] at hc
    exact no_str rfl hc
  exact ⟨b', o, ha, by rw [set2_cell _ _ _ _ _ hne]; exact hc, by rw [set2_cell _ _ _ _ _ hne]; exact hd⟩

/-- the variable U holds a list that is being made -/
def MemS (U B : Nat) (w4 : World) (z : Value) (xs : List ByteArray) (w : World) : Prop :=
  ∃ A n c, w.heap[U]? = some (.cells #[.slice A n c, z] 45 (0, 0)) ∧ w.ownsRow B 9 1 (.slice A n c) xs.length (xs.flatMap stC) ∧ Kp (fun k => k = U) w4 w ∧ B ≤ w.heap.size
def MemP (U B : Nat) (w4 : World) (z : Value) (xs : List Pr) (w : World) : Prop :=
  ∃ A n c, w.heap[U]? = some (.cells #[z, .slice A n c] 45 (0, 0)) ∧ w.ownsRow B 33 2 (.slice A n c) xs.length (xs.flatMap prC) ∧ Kp (fun k => k = U) w4 w ∧ B ≤ w.heap.size

theorem Kp.call {S : Nat → Prop} {a b c : World} (h : Kp S a b) (hb : Below b.heap.size b c) : Kp S a c := h.trans (T := fun _ => False) (Kp.of_below hb _) (fun _ _ t => t.elim)
theorem MemS.call {U B : Nat} {w4 : World} {z : Value} {xs : List ByteArray} {w w' : World} (h : MemS U B w4 z xs w) (hb : Below w.heap.size w w') : MemS U B w4 z xs w' := by
  obtain ⟨A, n, c, h1, h2, h3, h4⟩ := h
  exact ⟨A, n, c, blk_call h1 hb, owns_call h2 hb, h3.call hb, by have := hb.size; omega⟩
theorem MemP.call {U B : Nat} {w4 : World} {z : Value} {xs : List Pr} {w w' : World} (h : MemP U B w4 z xs w) (hb : Below w.heap.size w w') : MemP U B w4 z xs w' := by
  obtain ⟨A, n, c, h1, h2, h3, h4⟩ := h
  exact ⟨A, n, c, blk_call h1 hb, owns_call h2 hb, h3.call hb, by have := hb.size; omega⟩

/-- the variable holds what is appended -/
theorem memS_step {U B : Nat} {w4 w7 w8 : World} {A A' : Option Addr} {n c n' c' : Nat} {z : Value} {xs ys : List ByteArray} (hU : w7.heap[U]? = some (.cells #[.slice A n c, z] 45 (0, 0))) (hUB : U < B)
    (ho : w7.ownsRow B 9 1 (.slice A n c) xs.length (xs.flatMap stC)) (hk : Kp (fun k => k = U) w4 w7) (o : Obj) (h8 : OwnS B (w7.alloc o) (.slice A' n' c') (xs ++ ys) w8) (hg : (w7.alloc o).grownBy w8 (Value.slice A n c).ownBlock) (h4 : w4.heap.size ≤ B) :
    w8.heap[U]? = some (.cells #[.slice A n c, z] 45 (0, 0)) ∧ MemS U B w4 z (xs ++ ys) (w8.setCell ⟨U, 0, none⟩ (.slice A' n' c')) := by
  have hne : (Value.slice A n c).ownBlock ≠ some U := fun e => by have := (ho.lt _ e).1; omega
  have hne' : (Value.slice A' n' c').ownBlock ≠ some U := fun e => by have := (h8.1.lt _ e).1; omega
  have hU8 : w8.heap[U]? = some (.cells #[.slice A n c, z] 45 (0, 0)) := by
    rw [hg.block U (by have := blk_lt hU; simp; omega) (fun e => hne e.symm)]
    exact blk_alloc hU o
  refine ⟨hU8, A', n', c', blk_setCell hU8 0 _, owns_set h8.1 ⟨U, 0, none⟩ hne' _, ?_, by have := h8.2.2; simpa [World.setCell] using this⟩
  have hk8 : Kp (fun k => k = U) w4 w8 := (hk.alloc o).grown hg (fun k hk' e => absurd (ho.lt _ e).1 (by omega))
  exact hk8.setCell (p := ⟨U, 0, none⟩) (fun _ => rfl) _
theorem memP_step {U B : Nat} {w4 w7 w8 : World} {A A' : Option Addr} {n c n' c' : Nat} {z : Value} {xs ys : List Pr} (hU : w7.heap[U]? = some (.cells #[z, .slice A n c] 45 (0, 0))) (hUB : U < B)
    (ho : w7.ownsRow B 33 2 (.slice A n c) xs.length (xs.flatMap prC)) (hk : Kp (fun k => k = U) w4 w7) (o : Obj) (h8 : OwnP B (w7.alloc o) (.slice A' n' c') (xs ++ ys) w8) (hg : (w7.alloc o).grownBy w8 (Value.slice A n c).ownBlock) (h4 : w4.heap.size ≤ B) :
    w8.heap[U]? = some (.cells #[z, .slice A n c] 45 (0, 0)) ∧ MemP U B w4 z (xs ++ ys) (w8.setCell ⟨U, 1, none⟩ (.slice A' n' c')) := by
  have hne : (Value.slice A n c).ownBlock ≠ some U := fun e => by have := (ho.lt _ e).1; omega
  have hne' : (Value.slice A' n' c').ownBlock ≠ some U := fun e => by have := (h8.1.lt _ e).1; omega
  have hU8 : w8.heap[U]? = some (.cells #[z, .slice A n c] 45 (0, 0)) := by
    rw [hg.block U (by have := blk_lt hU; simp; omega) (fun e => hne e.symm)]
    exact blk_alloc hU o
  refine ⟨hU8, A', n', c', blk_setCell hU8 1 _, owns_set h8.1 ⟨U, 1, none⟩ hne' _, ?_, by have := h8.2.2; simpa [World.setCell] using this⟩
  have hk8 : Kp (fun k => k = U) w4 w8 := (hk.alloc o).grown hg (fun k hk' e => absurd (ho.lt _ e).1 (by omega))
  exact hk8.setCell (p := ⟨U, 1, none⟩) (fun _ => rfl) _

/-- texts and pairs behind a variable that turns -/
theorem Ss.kp {w w' : World} {v : Value} {l : List ByteArray} (h : Ss w v l) {U : Nat} {A B : Option Addr} {n m c d : Nat} {t : TypeId} (hU : w.heap[U]? = some (.cells #[.slice A n c, .slice B m d] t (0, 0))) (hk : Kp (fun k => k = U) w w') : Ss w' v l := by
  obtain ⟨A', cap, h1, h2, h3, h4⟩ := h
  refine ⟨A', cap, h1, h2, h3, fun i hi => ?_⟩
  obtain ⟨b, o, ha, hc⟩ := h4 i hi
  have hne : b ≠ U := by
    intro e
    subst e
    rw [blk_cell hU] at hc
    exact no_str rfl hc
  exact ⟨b, o, ha, by rw [hk.cell (World.block_lt_of_cell? _ _ hc) hne]; exact hc⟩
theorem MemS.ss {U B : Nat} {w4 : World} {z : Value} {xs : List ByteArray} {w : World} (h : MemS U B w4 z xs w) : ∃ A n c, w.heap[U]? = some (.cells #[.slice A n c, z] 45 (0, 0)) ∧ Ss w (.slice A n c) xs ∧ Kp (fun k => k = U) w4 w := by
  obtain ⟨A, n, c, h1, h2, h3, h4⟩ := h
  exact ⟨A, n, c, h1, OwnS.ss (B := B) (w0 := w) ⟨h2, Below.refl _ _, h4⟩, h3⟩
theorem MemP.ps {U B : Nat} {w4 : World} {z : Value} {xs : List Pr} {w : World} (h : MemP U B w4 z xs w) : ∃ A n c, w.heap[U]? = some (.cells #[z, .slice A n c] 45 (0, 0)) ∧ Ps w (.slice A n c) xs ∧ Kp (fun k => k = U) w4 w := by
  obtain ⟨A, n, c, h1, h2, h3, h4⟩ := h
  exact ⟨A, n, c, h1, OwnP.ps (B := B) (w0 := w) ⟨h2, Below.refl _ _, h4⟩, h3⟩
end Go.Proofs.Ytgiepgbjkkhniaa
