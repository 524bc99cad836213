/-
  A region that draws its order: some that make memory, in whatever order. No program.
-/
import Derived.Test.YtapfepmioiacbaaInv
import Derived.Test.YtapfepmioiacbaaKp
namespace Go.Proofs.Ytapfepmioiacbaa
open Go Go.RowKit

section
variable {P : Program} {ops : Array Oper} {Q : Exit → Act → World → Prop} {md : Region.Mode} {S : World → Prop} {n : Nat}

/-- two that each lay one block, and none but these may come -/
theorem sink_two {i j di dj : Nat} {m : Nat} {ls : Array Bool} {a : Act} {w : World} {X Y : Obj} {mi mj : Nat → Value} (hne : i ≠ j) (hd : di ≠ dj)
    (hr : Region.ready md ops ls = [i, j]) (hri : Region.ready md ops (ls.setIfInBounds i true) = [j]) (hrj : Region.ready md ops (ls.setIfInBounds j true) = [i])
    (hi : ∀ (K : Act → World → Prop) (w : World), K (a.put (some di) (mi w.heap.size)) (w.alloc X) → wpOp P ops Q i K a w)
    (hj : ∀ (K : Act → World → Prop) (w : World), K (a.put (some dj) (mj w.heap.size)) (w.alloc Y) → wpOp P ops Q j K a w)
    (hi' : ∀ (v : Value) (K : Act → World → Prop) (w : World), K ((a.put (some dj) v).put (some di) (mi w.heap.size)) (w.alloc X) → wpOp P ops Q i K (a.put (some dj) v) w)
    (hj' : ∀ (v : Value) (K : Act → World → Prop) (w : World), K ((a.put (some di) v).put (some dj) (mj w.heap.size)) (w.alloc Y) → wpOp P ops Q j K (a.put (some di) v) w)
    (hS : ∀ W, Below w.heap.size w W → S W)
    (h : ∀ (N M : Nat) (W : World), Below w.heap.size w W → W.heap[N]? = some X → W.heap[M]? = some Y → wpSink P md ops Q S n m ((ls.setIfInBounds i true).setIfInBounds j true) ((a.put (some di) (mi N)).put (some dj) (mj M)) W) :
    wpSink P md ops Q S n (m + 1 + 1) ls a w := by
  have b1 : ∀ o, Below w.heap.size w (w.alloc o) := fun o => (Below.refl _ _).alloc (Nat.le_refl _) o
  have b2 : ∀ o o', Below w.heap.size w ((w.alloc o).alloc o') := fun o o' => (b1 o).alloc (by simp) o'
  refine ⟨fun h0 => absurd (hr ▸ h0) (by simp), fun k hk => ?_⟩
  rw [hr] at hk
  simp only [List.mem_cons, List.not_mem_nil, or_false] at hk
  rcases hk with rfl | rfl
  · refine hi _ _ ⟨Or.inr (hS _ (b1 X)), sink_one hri (hj' _ _ _ ⟨Or.inr (hS _ (b2 X Y)), ?_⟩)⟩
    exact h _ _ _ (b2 X Y) (blk_alloc (blk_new _ _) _) (blk_new _ _)
  · refine hj _ _ ⟨Or.inr (hS _ (b1 Y)), sink_one hrj (hi' _ _ _ ⟨Or.inr (hS _ (b2 Y X)), ?_⟩)⟩
    rw [Array.setIfInBounds_comm _ _ (Ne.symm hne)]
    rw [Act.put_comm _ _ _ (fun d e1 e2 => hd (by cases e1; cases e2; rfl))]
    exact h _ _ _ (b2 Y X) (blk_new _ _) (blk_alloc (blk_new _ _) _)

/-- one that lays a block; beside it one that lays a block and answers c, and behind this one another that lays a block -/
theorem sink_vee {i j k di dj dk : Nat} {m : Nat} {ls : Array Bool} {a : Act} {w : World} {X Y Z : Obj} {mi mk : Nat → Value} {c : Value} (hne : i ≠ k) (hij : i ≠ j) (hd : di ≠ dk) (hdj : di ≠ dj)
    (hr : Region.ready md ops ls = [i, j]) (hri : Region.ready md ops (ls.setIfInBounds i true) = [j]) (hrj : Region.ready md ops (ls.setIfInBounds j true) = [i, k])
    (hrji : Region.ready md ops ((ls.setIfInBounds j true).setIfInBounds i true) = [k]) (hrjk : Region.ready md ops ((ls.setIfInBounds j true).setIfInBounds k true) = [i])
    (hi : (∀ (K : Act → World → Prop) (w : World), K (a.put (some di) (mi w.heap.size)) (w.alloc X) → wpOp P ops Q i K a w))
    (hj : ∀ (K : Act → World → Prop) (w : World), K (a.put (some dj) c) (w.alloc Z) → wpOp P ops Q j K a w)
    (hj' : ∀ (v : Value) (K : Act → World → Prop) (w : World), K ((a.put (some di) v).put (some dj) c) (w.alloc Z) → wpOp P ops Q j K (a.put (some di) v) w)
    (hi2 : (∀ (K : Act → World → Prop) (w : World), K ((a.put (some dj) c).put (some di) (mi w.heap.size)) (w.alloc X) → wpOp P ops Q i K (a.put (some dj) c) w))
    (hk2 : (∀ (K : Act → World → Prop) (w : World), K ((a.put (some dj) c).put (some dk) (mk w.heap.size)) (w.alloc Y) → wpOp P ops Q k K (a.put (some dj) c) w))
    (hi2' : (∀ (v : Value) (K : Act → World → Prop) (w : World), K (((a.put (some dj) c).put (some dk) v).put (some di) (mi w.heap.size)) (w.alloc X) → wpOp P ops Q i K ((a.put (some dj) c).put (some dk) v) w))
    (hk2' : (∀ (v : Value) (K : Act → World → Prop) (w : World), K (((a.put (some dj) c).put (some di) v).put (some dk) (mk w.heap.size)) (w.alloc Y) → wpOp P ops Q k K ((a.put (some dj) c).put (some di) v) w))
    (hS : ∀ W, Below w.heap.size w W → S W)
    (h : ∀ (N M : Nat) (W : World), Below w.heap.size w W → W.heap[N]? = some X → W.heap[M]? = some Y → wpSink P md ops Q S n m (((ls.setIfInBounds j true).setIfInBounds i true).setIfInBounds k true) (((a.put (some dj) c).put (some di) (mi N)).put (some dk) (mk M)) W) :
    wpSink P md ops Q S n (m + 1 + 1 + 1) ls a w := by
  have b1 : ∀ o, Below w.heap.size w (w.alloc o) := fun o => (Below.refl _ _).alloc (Nat.le_refl _) o
  have b2 : ∀ o o', Below w.heap.size w ((w.alloc o).alloc o') := fun o o' => (b1 o).alloc (by simp) o'
  have b3 : ∀ o o' o'', Below w.heap.size w (((w.alloc o).alloc o').alloc o'') := fun o o' o'' => (b2 o o').alloc (by simp; omega) o''
  refine ⟨fun h0 => absurd (hr ▸ h0) (by simp), fun l hl => ?_⟩
  rw [hr] at hl
  simp only [List.mem_cons, List.not_mem_nil, or_false] at hl
  rcases hl with rfl | rfl
  · refine hi _ _ ⟨Or.inr (hS _ (b1 X)), sink_one hri (hj' _ _ _ ⟨Or.inr (hS _ (b2 X Z)), ?_⟩)⟩
    rw [Array.setIfInBounds_comm _ _ hij, Act.put_comm _ _ _ (fun d e1 e2 => hdj (by cases e1; cases e2; rfl))]
    refine sink_one hrji (hk2' _ _ _ ⟨Or.inr (hS _ (b3 X Z Y)), ?_⟩)
    exact h _ _ _ (b3 X Z Y) (blk_alloc (blk_alloc (blk_new _ _) _) _) (blk_new _ _)
  · refine hj _ _ ⟨Or.inr (hS _ (b1 Z)), ?_⟩
    refine sink_two hne hd hrj hrji hrjk hi2 hk2 hi2' hk2' (fun W hW => hS W ((b1 Z).trans (hW.mono (b1 Z).size))) ?_
    intro N M W hW hx hy
    exact h N M W ((b1 Z).trans (hW.mono (b1 Z).size)) hx hy

/-- three that each lay one block, and none but these may come -/
theorem sink_three {i j k di dj dk : Nat} {m : Nat} {ls : Array Bool} {a : Act} {w : World} {X Y Z : Obj} {mi mj mk : Nat → Value} (hij : i ≠ j) (hik : i ≠ k) (hjk : j ≠ k) (dij : di ≠ dj) (dik : di ≠ dk) (djk : dj ≠ dk)
    (hr : Region.ready md ops ls = [i, j, k])
    (hri : Region.ready md ops (ls.setIfInBounds i true) = [j, k]) (hrj : Region.ready md ops (ls.setIfInBounds j true) = [i, k]) (hrk : Region.ready md ops (ls.setIfInBounds k true) = [i, j])
    (hrij : Region.ready md ops ((ls.setIfInBounds i true).setIfInBounds j true) = [k]) (hrik : Region.ready md ops ((ls.setIfInBounds i true).setIfInBounds k true) = [j]) (hrjk : Region.ready md ops ((ls.setIfInBounds j true).setIfInBounds k true) = [i])
    (hi0 : (∀ (K : Act → World → Prop) (w : World), K (a.put (some di) (mi w.heap.size)) (w.alloc X) → wpOp P ops Q i K a w))
    (hi1 : (∀ (v : Value) (K : Act → World → Prop) (w : World), K ((a.put (some dj) v).put (some di) (mi w.heap.size)) (w.alloc X) → wpOp P ops Q i K (a.put (some dj) v) w))
    (hi2 : (∀ (v : Value) (K : Act → World → Prop) (w : World), K ((a.put (some dk) v).put (some di) (mi w.heap.size)) (w.alloc X) → wpOp P ops Q i K (a.put (some dk) v) w))
    (hi3 : (∀ (v u : Value) (K : Act → World → Prop) (w : World), K (((a.put (some dj) v).put (some dk) u).put (some di) (mi w.heap.size)) (w.alloc X) → wpOp P ops Q i K ((a.put (some dj) v).put (some dk) u) w))
    (hj0 : (∀ (K : Act → World → Prop) (w : World), K (a.put (some dj) (mj w.heap.size)) (w.alloc Y) → wpOp P ops Q j K a w))
    (hj1 : (∀ (v : Value) (K : Act → World → Prop) (w : World), K ((a.put (some di) v).put (some dj) (mj w.heap.size)) (w.alloc Y) → wpOp P ops Q j K (a.put (some di) v) w))
    (hj2 : (∀ (v : Value) (K : Act → World → Prop) (w : World), K ((a.put (some dk) v).put (some dj) (mj w.heap.size)) (w.alloc Y) → wpOp P ops Q j K (a.put (some dk) v) w))
    (hj3 : (∀ (v u : Value) (K : Act → World → Prop) (w : World), K (((a.put (some di) v).put (some dk) u).put (some dj) (mj w.heap.size)) (w.alloc Y) → wpOp P ops Q j K ((a.put (some di) v).put (some dk) u) w))
    (hk0 : (∀ (K : Act → World → Prop) (w : World), K (a.put (some dk) (mk w.heap.size)) (w.alloc Z) → wpOp P ops Q k K a w))
    (hk1 : (∀ (v : Value) (K : Act → World → Prop) (w : World), K ((a.put (some di) v).put (some dk) (mk w.heap.size)) (w.alloc Z) → wpOp P ops Q k K (a.put (some di) v) w))
    (hk2 : (∀ (v : Value) (K : Act → World → Prop) (w : World), K ((a.put (some dj) v).put (some dk) (mk w.heap.size)) (w.alloc Z) → wpOp P ops Q k K (a.put (some dj) v) w))
    (hk3 : (∀ (v u : Value) (K : Act → World → Prop) (w : World), K (((a.put (some di) v).put (some dj) u).put (some dk) (mk w.heap.size)) (w.alloc Z) → wpOp P ops Q k K ((a.put (some di) v).put (some dj) u) w))
    (hS : ∀ W, Below w.heap.size w W → S W)
    (h : ∀ (N M L : Nat) (W : World), Below w.heap.size w W → W.heap[N]? = some X → W.heap[M]? = some Y → W.heap[L]? = some Z → wpSink P md ops Q S n m (((ls.setIfInBounds i true).setIfInBounds j true).setIfInBounds k true) (((a.put (some di) (mi N)).put (some dj) (mj M)).put (some dk) (mk L)) W) :
    wpSink P md ops Q S n (m + 1 + 1 + 1) ls a w := by
  have b1 : ∀ o, Below w.heap.size w (w.alloc o) := fun o => (Below.refl _ _).alloc (Nat.le_refl _) o
  have pc : ∀ (a : Act) (d e : Nat) (u v : Value), d ≠ e → (a.put (some d) u).put (some e) v = (a.put (some e) v).put (some d) u := fun a d e u v hn => Act.put_comm a _ _ (fun x e1 e2 => hn (by cases e1; cases e2; rfl))
  have lc : ∀ (l : Array Bool) (d e : Nat), d ≠ e → (l.setIfInBounds d true).setIfInBounds e true = (l.setIfInBounds e true).setIfInBounds d true := fun l d e hn => Array.setIfInBounds_comm _ _ hn
  have bT : ∀ {o W}, Below (w.alloc o).heap.size (w.alloc o) W → Below w.heap.size w W := fun {o W} hW => (b1 o).trans (hW.mono (b1 o).size)
  have bK : ∀ {o W}, Below (w.alloc o).heap.size (w.alloc o) W → W.heap[w.heap.size]? = some o := fun {o W} hW => blk_call (blk_new w o) hW
  refine ⟨fun h0 => absurd (hr ▸ h0) (by simp), fun l hl => ?_⟩
  rw [hr] at hl
  simp only [List.mem_cons, List.not_mem_nil, or_false] at hl
  rcases hl with rfl | rfl | rfl
  · refine hi0 _ _ ⟨Or.inr (hS _ (b1 X)), ?_⟩
    refine sink_two hjk djk hri hrij hrik (hj1 _) (hk1 _) (fun v => ?_) (fun v => hk3 _ v) (fun W hW => hS W (bT hW)) (fun N M W hW hx hy => h _ N M W (bT hW) (bK hW) hx hy)
    exact hj3 _ v
  · refine hj0 _ _ ⟨Or.inr (hS _ (b1 Y)), ?_⟩
    refine sink_two hik dik hrj (by rw [lc _ _ _ (Ne.symm hij)]; exact hrij) hrjk (hi1 _) (hk2 _) (fun v => hi3 _ v) (fun v => ?_) (fun W hW => hS W (bT hW)) (fun N M W hW hx hy => ?_)
    · rw [pc _ _ _ _ _ (Ne.symm dij)]
      exact hk3 v _
    · rw [lc _ _ _ (Ne.symm hij), pc _ _ _ _ _ (Ne.symm dij)]
      exact h N _ M W (bT hW) hx (bK hW) hy
  · refine hk0 _ _ ⟨Or.inr (hS _ (b1 Z)), ?_⟩
    refine sink_two hij dij hrk (by rw [lc _ _ _ (Ne.symm hik)]; exact hrik) (by rw [lc _ _ _ (Ne.symm hjk)]; exact hrjk) (hi2 _) (hj2 _) (fun v => ?_) (fun v => ?_) (fun W hW => hS W (bT hW)) (fun N M W hW hx hy => ?_)
    · rw [pc _ _ _ _ _ (Ne.symm djk)]
      exact hi3 v _
    · rw [pc _ _ _ _ _ (Ne.symm dik)]
      exact hj3 v _
    · rw [lc _ _ _ (Ne.symm hik), lc _ _ _ (Ne.symm hjk), pc _ _ _ _ _ (Ne.symm dik), pc _ _ _ _ _ (Ne.symm djk)]
      exact h N M _ W (bT hW) hx hy (bK hW)
end
end Go.Proofs.Ytapfepmioiacbaa
