/-
  URLGet's region that makes a query of two more pairs: what holds whatever has come.
-/
import Derived.Test.YtcppccpglcolnaaTurnedWalk
import Derived.Test.YtcppccpglcolnaaFew
import Derived.Test.YtcppccpglcolnaaInv
namespace Go.Proofs.Ytcppccpglcolnaa
open Go.RowKit Go.PlainAid

def newS : ByteArray := ⟨#[110, 101, 119]⟩
theorem keep_blk {W w' : World} {row : Option Nat} {k : Nat} {o : Obj} (hg : W.grownBy w' row) (h : W.heap[k]? = some o) (hne : some k ≠ row) : w'.heap[k]? = some o := (hg.block k (blk_lt h) hne).trans h
theorem keep25 {B : Nat} {w0 W w' : World} {v : Value} {xs : List Pr} {k : Nat} {cs : Array Value} (ho : OwnP B w0 v xs W) (h : W.heap[k]? = some (.cells cs 25 (0, 0))) (hg : W.grownBy w' v.ownBlock) : w'.heap[k]? = some (.cells cs 25 (0, 0)) := by
  refine keep_blk hg h ?_
  intro e
  obtain ⟨_, ⟨rfl, _⟩ | ⟨g, cap, cur, rfl, _, hgg, _⟩⟩ := ho.1
  · cases e
  · simp only [Value.ownBlock, Option.some.injEq] at e
    subst e
    rw [hgg] at h
    simp at h
theorem Ps.src {w : World} {A : Option Addr} {n c : Nat} {q : List Pr} (h : Ps w (.slice A n c) q) : ∀ ad, A = some ad → ∀ j u, (q.flatMap prC)[j]? = some u → w.cell? (ad.add j) = some u := by
  obtain ⟨A', cap, hv, _, _, hc⟩ := h
  simp only [Value.slice.injEq] at hv
  obtain ⟨rfl, _, _⟩ := hv
  intro ad ha j u hu
  have hj : j < q.length * 2 := by
    have := (List.getElem?_eq_some_iff.1 hu).1
    rw [prC_len] at this
    exact this
  obtain ⟨i, hi⟩ : ∃ i, j = i * 2 ∨ j = i * 2 + 1 := ⟨j / 2, by omega⟩
  have hi2 : i < q.length := by omega
  obtain ⟨b, o, hA, g1, g2⟩ := hc i hi2
  rw [hA] at ha
  cases ha
  have hat := prC_at q i hi2
  rcases hi with rfl | rfl
  · rw [hat.1] at hu
    cases hu
    rw [Addr.add_lit]; exact g1
  · rw [hat.2] at hu
    cases hu
    rw [Addr.add_lit, ← Nat.add_assoc]; exact g2

def newC : Array Value := #[.string ⟨#[110, 101, 119]⟩, .string ⟨#[49]⟩, .string ⟨#[110, 101, 119]⟩, .string ⟨#[50]⟩]
def newQ : List Pr := [(newS, ⟨#[49]⟩), (newS, ⟨#[50]⟩)]

structure GI (w0 : World) (x : Value) (q : List Pr) (b2 b5 b8 b9 b10 b11 b12 : Bool) (t64 t67 t70 t71 t72 t15 : Value) (w : World) : Prop where
  bel : Below w0.heap.size w0 w
  o5 : b5 = true → b2 = true
  o9 : b9 = true → b5 = true ∧ b8 = true
  o10 : b10 = true → b9 = true
  o12 : b12 = true → b9 = true ∧ b10 = true ∧ b11 = true
  f2 : b2 = true → b5 = false → ∃ k, t64 = .slice (some ⟨k, 0, none⟩) 0 0 ∧ w.heap[k]? = some (.cells #[] 32 (0, 0)) ∧ OwnP w0.heap.size w0 t64 [] w
  f5 : b5 = true → b9 = false → OwnP w0.heap.size w0 t67 q w
  f8 : b8 = true → b9 = false → ∃ k, t70 = .slice (some ⟨k, 0, none⟩) 2 2 ∧ w.heap[k]? = some (.cells newC 32 (0, 0))
  f9 : b9 = true → ∃ A n c, t71 = .slice A n c ∧ Ps w t71 (q ++ newQ)
  f10 : b10 = true → t72 = .agg #[x, t71]
  f11 : b11 = true → b12 = false → ∃ N, w0.heap.size ≤ N ∧ t15 = .pointer (some ⟨N, 0, none⟩) ∧ w.heap[N]? = some (.cells #[.slice none 0 0, .slice none 0 0] 25 (0, 0))
  f12 : b12 = true → ∃ N, t15 = .pointer (some ⟨N, 0, none⟩) ∧ w.heap[N]? = some (.cells #[x, t71] 25 (0, 0))

section
variable {w0 : World} {x : Value} {q : List Pr} {b2 b5 b8 b9 b10 b11 b12 : Bool} {t64 t67 t70 t71 t72 t15 : Value} {w : World}

theorem gi_start (w0 : World) (x : Value) (q : List Pr) (t64 t67 t70 t71 t72 t15 : Value) {w : World} (hb : Below w0.heap.size w0 w) : GI w0 x q false false false false false false false t64 t67 t70 t71 t72 t15 w := by
  refine ⟨hb, ?_, ?_, ?_, ?_, ?_, ?_, ?_, ?_, ?_, ?_, ?_⟩ <;> (intro h; cases h)
theorem GI.le (h : GI w0 x q b2 b5 b8 b9 b10 b11 b12 t64 t67 t70 t71 t72 t15 w) : w0.heap.size ≤ w.heap.size := h.bel.size
theorem gi_alloc (h : GI w0 x q b2 b5 b8 b9 b10 b11 b12 t64 t67 t70 t71 t72 t15 w) (o : Obj) : GI w0 x q b2 b5 b8 b9 b10 b11 b12 t64 t67 t70 t71 t72 t15 (w.alloc o) where
  bel := h.bel.alloc h.le o
  o5 := h.o5
  o9 := h.o9
  o10 := h.o10
  o12 := h.o12
  f2 := fun a b => by
    obtain ⟨k, h1, h2, h3⟩ := h.f2 a b
    exact ⟨k, h1, blk_alloc h2 o, h3.alloc o⟩
  f5 := fun a b => (h.f5 a b).alloc o
  f8 := fun a b => by
    obtain ⟨k, h1, h2⟩ := h.f8 a b
    exact ⟨k, h1, blk_alloc h2 o⟩
  f9 := fun a => by
    obtain ⟨A, n, c, h1, h2⟩ := h.f9 a
    exact ⟨A, n, c, h1, h2.call ((Below.refl _ _).alloc (Nat.le_refl _) o)⟩
  f10 := h.f10
  f11 := fun a b => by
    obtain ⟨k, h0, h1, h2⟩ := h.f11 a b
    exact ⟨k, h0, h1, blk_alloc h2 o⟩
  f12 := fun a => by
    obtain ⟨k, h1, h2⟩ := h.f12 a
    exact ⟨k, h1, blk_alloc h2 o⟩
theorem gi2 (h : GI w0 x q false b5 b8 b9 b10 b11 b12 t64 t67 t70 t71 t72 t15 w) :
    GI w0 x q true b5 b8 b9 b10 b11 b12 (.slice (some ⟨w.heap.size, 0, none⟩) 0 0) t67 t70 t71 t72 t15 (w.alloc (.cells #[] 32 (0, 0))) :=
  { gi_alloc h (.cells #[] 32 (0, 0)) with
    o5 := fun _ => rfl
    f2 := fun _ _ => ⟨_, rfl, blk_new _ _, empP w0.heap.size w0 w h.bel h.le⟩ }
theorem gi8 (h : GI w0 x q b2 b5 false b9 b10 b11 b12 t64 t67 t70 t71 t72 t15 w) :
    GI w0 x q b2 b5 true b9 b10 b11 b12 t64 t67 (.slice (some ⟨w.heap.size, 0, none⟩) 2 2) t71 t72 t15 (w.alloc (.cells newC 32 (0, 0))) :=
  { gi_alloc h (.cells newC 32 (0, 0)) with
    o9 := fun a => ⟨(h.o9 a).1, rfl⟩
    f8 := fun _ _ => ⟨_, rfl, blk_new _ _⟩ }
theorem gi11 (h : GI w0 x q b2 b5 b8 b9 b10 false b12 t64 t67 t70 t71 t72 t15 w) :
    GI w0 x q b2 b5 b8 b9 b10 true b12 t64 t67 t70 t71 t72 (.pointer (some ⟨w.heap.size, 0, none⟩)) (w.alloc (.cells #[.slice none 0 0, .slice none 0 0] 25 (0, 0))) :=
  { gi_alloc h (.cells #[.slice none 0 0, .slice none 0 0] 25 (0, 0)) with
    o12 := fun a => ⟨(h.o12 a).1, (h.o12 a).2.1, rfl⟩
    f11 := fun _ _ => ⟨_, h.le, rfl, blk_new _ _⟩
    f12 := fun a => by have := (h.o12 a).2.2; cases this }
theorem gi5 (h : GI w0 x q true false b8 b9 b10 b11 b12 t64 t67 t70 t71 t72 t15 w) {v' : Value} {w' : World} (h1 : OwnP w0.heap.size w0 v' q w') (hg : w.grownBy w' t64.ownBlock) :
    GI w0 x q true true b8 b9 b10 b11 b12 t64 v' t70 t71 t72 t15 w' where
  bel := h1.2.1
  o5 := fun _ => rfl
  o9 := fun a => by have := (h.o9 a).1; cases this
  o10 := h.o10
  o12 := h.o12
  f2 := fun _ b => by cases b
  f5 := fun _ _ => h1
  f8 := fun a b => by
    obtain ⟨k, e1, e2⟩ := h.f8 a b
    obtain ⟨k', e3, e4, _⟩ := h.f2 rfl rfl
    refine ⟨k, e1, keep_blk hg e2 ?_⟩
    rw [e3]
    intro e
    simp only [Value.ownBlock, Option.some.injEq] at e
    subst e
    rw [e4] at e2
    simp [newC] at e2
  f9 := fun a => by have := (h.o9 a).1; cases this
  f10 := fun a => by have := (h.o9 (h.o10 a)).1; cases this
  f11 := fun a b => by
    obtain ⟨k, e0, e1, e2⟩ := h.f11 a b
    obtain ⟨_, _, _, e5⟩ := h.f2 rfl rfl
    exact ⟨k, e0, e1, keep25 e5 e2 hg⟩
  f12 := fun a => by have := (h.o9 (h.o12 a).1).1; cases this
theorem gi9 (h : GI w0 x q b2 true true false b10 b11 b12 t64 t67 t70 t71 t72 t15 w) {v' : Value} {w' : World} (h1 : OwnP w0.heap.size w0 v' (q ++ newQ) w') (hg : w.grownBy w' t67.ownBlock) :
    GI w0 x q b2 true true true b10 b11 b12 t64 t67 t70 v' t72 t15 w' where
  bel := h1.2.1
  o5 := h.o5
  o9 := fun _ => ⟨rfl, rfl⟩
  o10 := fun _ => rfl
  o12 := fun a => by have := (h.o12 a).1; cases this
  f2 := fun _ b => by cases b
  f5 := fun _ b => by cases b
  f8 := fun _ b => by cases b
  f9 := fun _ => by
    obtain ⟨A, n, c, e⟩ := h1.ps.shape
    exact ⟨A, n, c, e, h1.ps⟩
  f10 := fun a => by have := h.o10 a; cases this
  f11 := fun a b => by
    obtain ⟨k, e0, e1, e2⟩ := h.f11 a b
    exact ⟨k, e0, e1, keep25 (h.f5 rfl rfl) e2 hg⟩
  f12 := fun a => by have := (h.o12 a).1; cases this
theorem gi10 (h : GI w0 x q b2 b5 b8 true false b11 b12 t64 t67 t70 t71 t72 t15 w) : GI w0 x q b2 b5 b8 true true b11 b12 t64 t67 t70 t71 (.agg #[x, t71]) t15 w :=
  { h with
    o10 := fun _ => rfl
    o12 := fun a => by have := (h.o12 a).2.1; cases this
    f10 := fun _ => rfl
    f12 := h.f12 }
theorem gi12 (h : GI w0 x q b2 b5 b8 true true true false t64 t67 t70 t71 t72 t15 w) {N : Nat} (hN : w0.heap.size ≤ N) (ht : t15 = .pointer (some ⟨N, 0, none⟩)) (hb : w.heap[N]? = some (.cells #[.slice none 0 0, .slice none 0 0] 25 (0, 0))) :
    GI w0 x q b2 b5 b8 true true true true t64 t67 t70 t71 t72 t15 ((w.setCell ⟨N, 0, none⟩ x).setCell ⟨N, 1, none⟩ t71) where
  bel := (h.bel.setCell hN _).setCell hN _
  o5 := h.o5
  o9 := h.o9
  o10 := h.o10
  o12 := fun _ => ⟨rfl, rfl, rfl⟩
  f2 := fun _ b => by have := (h.o9 rfl).1; rw [b] at this; cases this
  f5 := fun _ b => by cases b
  f8 := fun _ b => by cases b
  f9 := fun a => by
    obtain ⟨A, n, c, e, e2⟩ := h.f9 a
    exact ⟨A, n, c, e, e2.set2 hb _ _⟩
  f10 := h.f10
  f11 := fun _ b => by cases b
  f12 := fun _ => ⟨N, ht, blk_set2 hb _ _⟩
end
end Go.Proofs.Ytcppccpglcolnaa
