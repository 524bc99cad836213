/-
  Two trees of numbers, each in a block of its own: whatever has come so far of the region that makes them.
-/
import Derived.Test.YtolklphenllhpaaWtr
import Derived.Test.YtolklphenllhpaaAin
namespace Go.Proofs.Ytolklphenllhpaa
open Go.RowKit Go.PlainAid
set_option maxRecDepth 100000

def nil27 : Obj := .cells #[.string ⟨#[]⟩, .string ⟨#[]⟩, .string ⟨#[]⟩, .slice none 0 0, .slice none 0 0] 27 (0, 0)
/-- block N: nothing stored yet, or t -/
def Slot (b : Bool) (t : Value) (w : World) (N : Nat) : Prop :=
  (b = false → w.heap[N]? = some nil27) ∧ (b = true → ∃ x0 x1 x2 x3 x4, t = .agg #[x0, x1, x2, x3, x4] ∧ w.heap[N]? = some (.cells #[x0, x1, x2, x3, x4] 27 (0, 0)))
theorem Slot.lt {b : Bool} {t : Value} {w : World} {N : Nat} (h : Slot b t w N) : N < w.heap.size := by
  cases b
  · exact blk_lt (h.1 rfl)
  · obtain ⟨_, _, _, _, _, _, h2⟩ := h.2 rfl
    exact blk_lt h2
theorem Slot.call {b : Bool} {t : Value} {w w' : World} {N : Nat} (h : Slot b t w N) (hb : Below w.heap.size w w') : Slot b t w' N := by
  refine ⟨fun e => blk_call (h.1 e) hb, fun e => ?_⟩
  obtain ⟨x0, x1, x2, x3, x4, h1, h2⟩ := h.2 e
  exact ⟨x0, x1, x2, x3, x4, h1, blk_call h2 hb⟩
theorem Slot.other {b : Bool} {t : Value} {w w' : World} {N M : Nat} (h : Slot b t w N) (hne : N ≠ M) (hk : Kp (fun i => i = M) w w') : Slot b t w' N := by
  have e : w'.heap[N]? = w.heap[N]? := hk.block N h.lt hne
  exact ⟨fun a => e.trans (h.1 a), fun a => by
    obtain ⟨x0, x1, x2, x3, x4, h1, h2⟩ := h.2 a
    exact ⟨x0, x1, x2, x3, x4, h1, e.trans h2⟩⟩
theorem slot_false {t t' : Value} {b : Bool} {w : World} {N : Nat} (h : Slot b t w N) (hb : b = false) : Slot b t' w N :=
  ⟨h.1, fun e => by rw [hb] at e; cases e⟩
/-- a tree of numbers at v -/
def Tw (q : Nat → Prop) (w : World) (v : Value) : Prop := ∃ t, TrW q w v t ∧ WoT t
theorem Tw.shape {q : Nat → Prop} {w : World} {v : Value} (h : Tw q w v) : ∃ g k x A n a K m c, v = .agg #[.string g, .string k, .string x, .slice A n a, .slice K m c] := by
  obtain ⟨t, h1, _⟩ := h
  obtain ⟨g, k, x, a, ks, A, n, c, K, m, _, e⟩ := h1.parts
  exact ⟨g, k, x, A, n, c, K, _, m, e⟩
theorem Tw.call {q : Nat → Prop} {w w' : World} {v : Value} (h : Tw q w v) (hb : Below w.heap.size w w') : Tw q w' v := by
  obtain ⟨t, h1, h2⟩ := h
  exact ⟨t, h1.call hb, h2⟩
theorem Tw.mono {p q : Nat → Prop} {w : World} {v : Value} (h : Tw p w v) (hq : ∀ k, p k → k < w.heap.size → q k) : Tw q w v := by
  obtain ⟨t, h1, h2⟩ := h
  exact ⟨t, h1.mono hq, h2⟩
theorem Tw.frame {p : Nat → Prop} {w w' : World} {v : Value} (h : Tw p w v) (hq : ∀ k, p k → k < w.heap.size → w'.heap[k]? = w.heap[k]?) : Tw p w' v := by
  obtain ⟨t, h1, h2⟩ := h
  exact ⟨t, h1.frame hq, h2⟩
def ptr (N : Nat) : Value := .pointer (some ⟨N, 0, none⟩)
theorem ptr_inj {N M : Nat} (h : ptr N = ptr M) : N = M := by
  unfold ptr at h
  injection h with h
  injection h with h
  injection h
/-- the blocks that a tree may have -/
def Own2 (B : Nat) (b4 b5 : Bool) (t7 t8 : Value) (k : Nat) : Prop := B ≤ k ∧ (b4 = true → t7 ≠ ptr k) ∧ (b5 = true → t8 ≠ ptr k)

structure PI (w0 : World) (b1 b3 b4 b5 b6 b7 : Bool) (t18 t20 t7 t8 : Value) (w : World) : Prop where
  bel : Below w0.heap.size w0 w
  o6 : b6 = true → b1 = true ∧ b4 = true
  o7 : b7 = true → b3 = true ∧ b5 = true
  f1 : b1 = true → Tw (Own2 w0.heap.size b4 b5 t7 t8) w t18
  f3 : b3 = true → Tw (Own2 w0.heap.size b4 b5 t7 t8) w t20
  f4 : b4 = true → ∃ N, w0.heap.size ≤ N ∧ t7 = ptr N ∧ Slot b6 t18 w N
  f5 : b5 = true → ∃ N, w0.heap.size ≤ N ∧ t8 = ptr N ∧ Slot b7 t20 w N
  ne : b4 = true → b5 = true → t7 ≠ t8

section
variable {w0 : World} {b1 b3 b4 b5 b6 b7 : Bool} {t18 t20 t7 t8 : Value} {w : World}
theorem pi_start (w0 : World) (t18 t20 t7 t8 : Value) {w : World} (hb : Below w0.heap.size w0 w) : PI w0 false false false false false false t18 t20 t7 t8 w := by
  refine ⟨hb, ?_, ?_, ?_, ?_, ?_, ?_, ?_⟩ <;> (intro h; cases h)
theorem pi_call (h : PI w0 b1 b3 b4 b5 b6 b7 t18 t20 t7 t8 w) {w' : World} (hb : Below w.heap.size w w') : PI w0 b1 b3 b4 b5 b6 b7 t18 t20 t7 t8 w' where
  bel := h.bel.trans (hb.mono h.bel.size)
  o6 := h.o6
  o7 := h.o7
  f1 := fun a => (h.f1 a).call hb
  f3 := fun a => (h.f3 a).call hb
  f4 := fun a => by
    obtain ⟨N, h1, h2, h3⟩ := h.f4 a
    exact ⟨N, h1, h2, h3.call hb⟩
  f5 := fun a => by
    obtain ⟨N, h1, h2, h3⟩ := h.f5 a
    exact ⟨N, h1, h2, h3.call hb⟩
  ne := h.ne
/-- what is new in memory is no block of the two -/
theorem own_new (h : PI w0 b1 b3 b4 b5 b6 b7 t18 t20 t7 t8 w) {k : Nat} (hk : w.heap.size ≤ k) : Own2 w0.heap.size b4 b5 t7 t8 k := by
  refine ⟨Nat.le_trans h.bel.size hk, fun a e => ?_, fun a e => ?_⟩
  · obtain ⟨N, h1, h2, h3⟩ := h.f4 a
    have := ptr_inj (h2.symm.trans e)
    have := h3.lt
    omega
  · obtain ⟨N, h1, h2, h3⟩ := h.f5 a
    have := ptr_inj (h2.symm.trans e)
    have := h3.lt
    omega
theorem pi1 (h : PI w0 false b3 b4 b5 b6 b7 t18 t20 t7 t8 w) {w' : World} {v : Value} {t : Tr} (ht : TrW (fun k => w.heap.size ≤ k) w' v t) (hw : WoT t) (hb : Below w.heap.size w w') : PI w0 true b3 b4 b5 b6 b7 v t20 t7 t8 w' :=
  have k := pi_call h hb
  have hb6 : b6 = false := by
    cases b6
    · rfl
    · have := (h.o6 rfl).1; cases this
  { k with
    o6 := fun a => ⟨rfl, (h.o6 a).2⟩
    f1 := fun _ => ⟨t, ht.mono (fun k hk _ => own_new h hk), hw⟩
    f4 := fun a => by
      obtain ⟨N, h1, h2, h3⟩ := k.f4 a
      exact ⟨N, h1, h2, slot_false h3 hb6⟩ }
theorem pi3 (h : PI w0 b1 false b4 b5 b6 b7 t18 t20 t7 t8 w) {w' : World} {v : Value} {t : Tr} (ht : TrW (fun k => w.heap.size ≤ k) w' v t) (hw : WoT t) (hb : Below w.heap.size w w') : PI w0 b1 true b4 b5 b6 b7 t18 v t7 t8 w' :=
  have k := pi_call h hb
  have hb7 : b7 = false := by
    cases b7
    · rfl
    · have := (h.o7 rfl).1; cases this
  { k with
    o7 := fun a => ⟨rfl, (h.o7 a).2⟩
    f3 := fun _ => ⟨t, ht.mono (fun k hk _ => own_new h hk), hw⟩
    f5 := fun a => by
      obtain ⟨N, h1, h2, h3⟩ := k.f5 a
      exact ⟨N, h1, h2, slot_false h3 hb7⟩ }
theorem pi4 (h : PI w0 b1 b3 false b5 b6 b7 t18 t20 t7 t8 w) : PI w0 b1 b3 true b5 b6 b7 t18 t20 (ptr w.heap.size) t8 (w.alloc nil27) :=
  have hb := (Below.refl _ w).alloc (Nat.le_refl _) nil27
  have k := pi_call h hb
  have hb6 : b6 = false := by
    cases b6
    · rfl
    · have := (h.o6 rfl).2; cases this
  have hm : ∀ k, Own2 w0.heap.size false b5 t7 t8 k → k < w.heap.size → Own2 w0.heap.size true b5 (ptr w.heap.size) t8 k := fun k hk hl => ⟨hk.1, fun _ e => by have := ptr_inj e; omega, hk.2.2⟩
  { k with
    o6 := fun a => ⟨(h.o6 a).1, rfl⟩
    f1 := fun a => ((h.f1 a).mono hm).call hb
    f3 := fun a => ((h.f3 a).mono hm).call hb
    f4 := fun _ => ⟨_, h.bel.size, rfl, fun _ => blk_new _ _, fun a => by rw [hb6] at a; cases a⟩
    ne := fun _ b e => by
      obtain ⟨N, _, h2, h3⟩ := h.f5 b
      rw [h2] at e
      have := ptr_inj e
      have := h3.lt
      omega }
theorem pi5 (h : PI w0 b1 b3 b4 false b6 b7 t18 t20 t7 t8 w) : PI w0 b1 b3 b4 true b6 b7 t18 t20 t7 (ptr w.heap.size) (w.alloc nil27) :=
  have hb := (Below.refl _ w).alloc (Nat.le_refl _) nil27
  have k := pi_call h hb
  have hb7 : b7 = false := by
    cases b7
    · rfl
    · have := (h.o7 rfl).2; cases this
  have hm : ∀ k, Own2 w0.heap.size b4 false t7 t8 k → k < w.heap.size → Own2 w0.heap.size b4 true t7 (ptr w.heap.size) k := fun k hk hl => ⟨hk.1, hk.2.1, fun _ e => by have := ptr_inj e; omega⟩
  { k with
    o7 := fun a => ⟨(h.o7 a).1, rfl⟩
    f1 := fun a => ((h.f1 a).mono hm).call hb
    f3 := fun a => ((h.f3 a).mono hm).call hb
    f5 := fun _ => ⟨_, h.bel.size, rfl, fun _ => blk_new _ _, fun a => by rw [hb7] at a; cases a⟩
    ne := fun b _ e => by
      obtain ⟨N, _, h2, h3⟩ := h.f4 b
      rw [h2] at e
      have := ptr_inj e
      have := h3.lt
      omega }
theorem pi6 {x0 x1 x2 x3 x4 : Value} {N : Nat} (h : PI w0 true b3 true b5 false b7 (.agg #[x0, x1, x2, x3, x4]) t20 (ptr N) t8 w) (hN : w0.heap.size ≤ N) (hb : w.heap[N]? = some nil27) :
    PI w0 true b3 true b5 true b7 (.agg #[x0, x1, x2, x3, x4]) t20 (ptr N) t8 (((((w.setCell ⟨N, 0, none⟩ x0).setCell ⟨N, 1, none⟩ x1).setCell ⟨N, 2, none⟩ x2).setCell ⟨N, 3, none⟩ x3).setCell ⟨N, 4, none⟩ x4) :=
  have hs := set5 w N 27 x0 x1 x2 x3 x4 hb rfl
  have hf : ∀ k, Own2 w0.heap.size true b5 (ptr N) t8 k → k < w.heap.size → (((((w.setCell ⟨N, 0, none⟩ x0).setCell ⟨N, 1, none⟩ x1).setCell ⟨N, 2, none⟩ x2).setCell ⟨N, 3, none⟩ x3).setCell ⟨N, 4, none⟩ x4).heap[k]? = w.heap[k]? := fun k hk hl => hs.2.block k hl (fun e => hk.2.1 rfl (by rw [e]))
  { bel := h.bel.trans (hs.2.below h.bel.size (fun k hk e => by omega))
    o6 := fun _ => ⟨rfl, rfl⟩
    o7 := h.o7
    f1 := fun a => (h.f1 a).frame hf
    f3 := fun a => (h.f3 a).frame hf
    f4 := fun _ => ⟨N, hN, rfl, And.intro (fun e => by cases e) (fun _ => ⟨x0, x1, x2, x3, x4, rfl, hs.1⟩)⟩
    f5 := fun a => by
      obtain ⟨M, h1, h2, h3⟩ := h.f5 a
      refine ⟨M, h1, h2, h3.other ?_ hs.2⟩
      rintro rfl
      exact h.ne rfl a h2.symm
    ne := h.ne }
theorem pi7 {x0 x1 x2 x3 x4 : Value} {N : Nat} (h : PI w0 b1 true b4 true b6 false t18 (.agg #[x0, x1, x2, x3, x4]) t7 (ptr N) w) (hN : w0.heap.size ≤ N) (hb : w.heap[N]? = some nil27) :
    PI w0 b1 true b4 true b6 true t18 (.agg #[x0, x1, x2, x3, x4]) t7 (ptr N) (((((w.setCell ⟨N, 0, none⟩ x0).setCell ⟨N, 1, none⟩ x1).setCell ⟨N, 2, none⟩ x2).setCell ⟨N, 3, none⟩ x3).setCell ⟨N, 4, none⟩ x4) :=
  have hs := set5 w N 27 x0 x1 x2 x3 x4 hb rfl
  have hf : ∀ k, Own2 w0.heap.size b4 true t7 (ptr N) k → k < w.heap.size → (((((w.setCell ⟨N, 0, none⟩ x0).setCell ⟨N, 1, none⟩ x1).setCell ⟨N, 2, none⟩ x2).setCell ⟨N, 3, none⟩ x3).setCell ⟨N, 4, none⟩ x4).heap[k]? = w.heap[k]? := fun k hk hl => hs.2.block k hl (fun e => hk.2.2 rfl (by rw [e]))
  { bel := h.bel.trans (hs.2.below h.bel.size (fun k hk e => by omega))
    o6 := h.o6
    o7 := fun _ => ⟨rfl, rfl⟩
    f1 := fun a => (h.f1 a).frame hf
    f3 := fun a => (h.f3 a).frame hf
    f4 := fun a => by
      obtain ⟨M, h1, h2, h3⟩ := h.f4 a
      refine ⟨M, h1, h2, h3.other ?_ hs.2⟩
      rintro rfl
      exact h.ne a rfl h2
    f5 := fun _ => ⟨N, hN, rfl, And.intro (fun e => by cases e) (fun _ => ⟨x0, x1, x2, x3, x4, rfl, hs.1⟩)⟩
    ne := h.ne }
end
theorem cells4_at {w : World} {b : Nat} {x0 x1 x2 x3 : Value} {ty : TypeId} (h : w.heap[b]? = some (.cells #[x0, x1, x2, x3] ty (0, 0))) : w.cell? ⟨b, 0, none⟩ = some x0 ∧ w.cell? ⟨b, 1, none⟩ = some x1 ∧ w.cell? ⟨b, 2, none⟩ = some x2 ∧ w.cell? ⟨b, 3, none⟩ = some x3 := by
  refine ⟨?_, ?_, ?_, ?_⟩ <;> simp [World.cell?, h]
theorem cells5_at {w : World} {b : Nat} {x0 x1 x2 x3 x4 : Value} {ty : TypeId} (h : w.heap[b]? = some (.cells #[x0, x1, x2, x3, x4] ty (0, 0))) : w.cell? ⟨b, 0, none⟩ = some x0 ∧ w.cell? ⟨b, 1, none⟩ = some x1 ∧ w.cell? ⟨b, 2, none⟩ = some x2 ∧ w.cell? ⟨b, 3, none⟩ = some x3 ∧ w.cell? ⟨b, 4, none⟩ = some x4 := by
  refine ⟨?_, ?_, ?_, ?_, ?_⟩ <;> simp [World.cell?, h]
theorem owns_shape {w : World} {B : Nat} {e : TypeId} {size n : Nat} {v : Value} {xs : List Value} (h : w.ownsRow B e size v n xs) : ∃ K c, v = .slice K n c := by
  rcases h.2 with ⟨e, hn⟩ | ⟨g, cap, cur, e, _⟩
  · subst hn
    exact ⟨_, _, e⟩
  · exact ⟨_, _, e⟩
theorem TrW.retag {p : Nat → Prop} {w : World} {v : Value} {t : Tr} (h : TrW p w v t) (z o : Tx) : ∃ y0 y1 y2 y3 y4, v = .agg #[y0, y1, y2, y3, y4] ∧ TrW p w (.agg #[.string z, .string o, y2, y3, y4]) (.mk z o t.text t.attrs t.kids) := by
  cases h with
  | mk cv hb ha hap hc hk ht => exact ⟨_, _, _, _, _, rfl, .mk cv hb ha hap hc hk ht⟩
theorem sets_far {cur : Array Value} {x y : Value} {i : Nat} (h0 : i ≠ 0) (h1 : i ≠ 1) : ((cur.setIfInBounds 0 x).setIfInBounds 1 y)[i]? = cur[i]? := by
  rw [Array.getElem?_setIfInBounds_ne (by omega), Array.getElem?_setIfInBounds_ne (by omega)]
/-- the first kid's tag and key are stored into -/
theorem kid_set {B : Nat} {p : Nat → Prop} {w : World} {v : Value} {vs : List (List Value)} {t0 : Tr} {ts : List Tr} (h : TrR B p w v vs (t0 :: ts)) (hp : ∀ k, B ≤ k → p k) {tag key text : Tx} {attrs : List Pr} {av : Value} (hb : attrs.length ≤ 1000000 ∧ (t0 :: ts).length ≤ 1000000) (ha : Ps w av attrs) (hap : ∀ a n c, av = .slice (some a) n c → 0 < attrs.length → p a.block)
    (hs : ∀ g, v.ownBlock = some g → ∀ ad n c, av = .slice (some ad) n c → 0 < attrs.length → ad.block ≠ g) (z o : Tx) :
    ∃ g cap cur, v = .slice (some ⟨g, 0, none⟩) (t0 :: ts).length cap ∧ B ≤ g ∧ g < w.heap.size ∧ w.heap[g]? = some (.cells cur 27 (0, 0)) ∧ 5 ≤ cur.size ∧
      TrW p ((w.setCell ⟨g, 0, none⟩ (.string z)).setCell ⟨g, 1, none⟩ (.string o)) (.agg #[.string tag, .string key, .string text, av, v]) (.mk tag key text attrs (.mk z o t0.text t0.attrs t0.kids :: ts)) := by
  have hcl := @World.ownsRow.cells _ _ _ _ _ _ _ h.own
  have hlt := h.own.lt
  have hlen := h.len
  rcases h.own.2 with ⟨e, h0⟩ | ⟨g, cap, cur, e, hB, hg, h4, _, h6, _⟩
  · rw [h0] at hlen
    cases hlen
  have hge := (hlt g (by rw [e]; rfl)).2
  have hcell : ∀ i, i < vs.length → ∀ j, j < 5 → cur[i * 5 + j]? = (vs.getD i [])[j]? := fun i hi j hj => by
    have h5 := flat_get h.five i j hi hj
    have hm : vs.getD i [] ∈ vs := by simp [List.getD, hi]
    have hl := (h.five _ hm).1
    have hlt : j < (vs.getD i []).length := by omega
    rw [List.getElem?_eq_getElem hlt] at h5 ⊢
    have := hcl (by rw [e]; rfl) (i * 5 + j) _ h5
    rw [add_lit', Nat.zero_add, blk_cell hg] at this
    exact this
  have hv5 : ∀ i, i < vs.length → ∃ y0 y1 y2 y3 y4, vs.getD i [] = [y0, y1, y2, y3, y4] := fun i hi => by
    have hm : vs.getD i [] ∈ vs := by simp [List.getD, hi]
    have hl := (h.five _ hm).1
    match vs.getD i [], hl with
    | [a, b, c, d, e], _ => exact ⟨a, b, c, d, e, rfl⟩
  have hkp : Kp (fun k => k = g) w ((w.setCell ⟨g, 0, none⟩ (.string z)).setCell ⟨g, 1, none⟩ (.string o)) := ((Kp.refl (fun k => k = g) w).setCell (p := ⟨g, 0, none⟩) (fun _ => rfl) _).setCell (p := ⟨g, 1, none⟩) (fun _ => rfl) _
  have hg2 := blk_setCell (blk_setCell hg 0 (.string z)) 1 (.string o)
  have hown : v.ownBlock = some g := by rw [e]; rfl
  have hfr : ∀ {x : Value} {t : Tr}, TrW (fun k => p k ∧ v.ownBlock ≠ some k) w x t → TrW p ((w.setCell ⟨g, 0, none⟩ (.string z)).setCell ⟨g, 1, none⟩ (.string o)) x t := fun ht =>
    (ht.frame (fun k hk hl => hkp.block k hl (fun e => hk.2 (by rw [hown, e])))).mono (fun k hk _ => hk.1)
  have h0 : 0 < vs.length := by rw [hlen]; simp
  obtain ⟨y0, y1, y2, y3, y4, ey⟩ := hv5 0 h0
  have ht0 := h.tr 0 h0
  rw [ey] at ht0
  obtain ⟨_, _, _, _, _, er, hr0⟩ := (hfr ht0).retag z o
  cases er
  have hsz : 5 ≤ cur.size := by
    have h7 := hcell 0 h0 4 (by omega)
    rw [ey] at h7
    have := (Array.getElem?_eq_some_iff.1 (show cur[0 * 5 + 4]? = some y4 from h7)).1
    omega
  rw [e, hlen]
  refine ⟨g, cap, cur, rfl, hB, hge, hg, hsz, ?_⟩
  refine TrW.mk (kids := .mk z o t0.text t0.attrs t0.kids :: ts) (fun i => if i = 0 then .agg #[.string z, .string o, y2, y3, y4] else .agg (vs.getD i []).toArray) hb (ha.frame (p := fun k => k ≠ g) (fun ad n c e2 hl => hs g hown ad n c e2 hl) (fun k hk hl => hkp.block k hl hk)) hap (by rw [hlen] at h4; exact h4) (fun i hi => ?_) (fun i hi => ?_)
  · have hi' : i < vs.length := by rw [hlen]; exact hi
    by_cases ei : i = 0
    · subst ei
      have c2 := hcell 0 h0 2 (by omega)
      have c3 := hcell 0 h0 3 (by omega)
      have c4 := hcell 0 h0 4 (by omega)
      rw [ey] at c2 c3 c4
      refine ⟨g, 0, _, _, _, _, _, rfl, hp g hB, by rw [if_pos rfl], ?_, ?_, ?_, ?_, ?_⟩
      · rw [blk_cell hg2]
        show ((cur.setIfInBounds 0 _).setIfInBounds 1 _)[0]? = _
        rw [Array.getElem?_setIfInBounds_ne (by omega), Array.getElem?_setIfInBounds_self_of_lt (by omega)]
      · rw [blk_cell hg2]
        show ((cur.setIfInBounds 0 _).setIfInBounds 1 _)[1]? = _
        rw [Array.getElem?_setIfInBounds_self_of_lt (by rw [Array.size_setIfInBounds]; omega)]
      · rw [blk_cell hg2, sets_far (by omega) (by omega)]; exact c2
      · rw [blk_cell hg2, sets_far (by omega) (by omega)]; exact c3
      · rw [blk_cell hg2, sets_far (by omega) (by omega)]; exact c4
    · obtain ⟨u0, u1, u2, u3, u4, eu⟩ := hv5 i hi'
      have c0 := hcell i hi' 0 (by omega)
      have c1 := hcell i hi' 1 (by omega)
      have c2 := hcell i hi' 2 (by omega)
      have c3 := hcell i hi' 3 (by omega)
      have c4 := hcell i hi' 4 (by omega)
      rw [eu] at c0 c1 c2 c3 c4
      refine ⟨g, 0, u0, u1, u2, u3, u4, rfl, hp g hB, by rw [if_neg ei, eu], ?_, ?_, ?_, ?_, ?_⟩
      all_goals rw [Nat.zero_add, blk_cell hg2, sets_far (by omega) (by omega)]
      · exact c0
      · exact c1
      · exact c2
      · exact c3
      · exact c4
  · have hi' : i < vs.length := by rw [hlen]; exact hi
    by_cases ei : i = 0
    · subst ei
      rw [if_pos rfl]
      exact hr0
    · have := hfr (h.tr i hi')
      rw [if_neg ei]
      rw [show (Tr.mk z o t0.text t0.attrs t0.kids :: ts).getD i tr0 = (t0 :: ts).getD i tr0 by cases i with
        | zero => exact absurd rfl ei
        | succ i => rfl]
      exact this
/-- the tree t's value, shown by its cells -/
def Ts (q : Nat → Prop) (w : World) (N : Nat) (t : Tr) : Prop :=
  ∃ g k x A n a K m c, w.heap[N]? = some (.cells #[.string g, .string k, .string x, .slice A n a, .slice K m c] 27 (0, 0)) ∧ TrW q w (.agg #[.string g, .string k, .string x, .slice A n a, .slice K m c]) t
/-- two trees, each in a block of its own -/
structure Two (B N M : Nat) (t u : Tr) (w : World) : Prop where
  hn : B ≤ N ∧ B ≤ M ∧ N ≠ M
  wt : WoT t
  wu : WoT u
  t1 : Ts (fun k => B ≤ k ∧ k ≠ N ∧ k ≠ M) w N t
  t2 : Ts (fun k => B ≤ k ∧ k ≠ N ∧ k ≠ M) w M u
theorem pi_end {w0 w : World} {t18 t20 t7 t8 : Value} (h : PI w0 true true true true true true t18 t20 t7 t8 w) :
    ∃ N M t u, t7 = .pointer (some ⟨N, 0, none⟩) ∧ t8 = .pointer (some ⟨M, 0, none⟩) ∧ Two w0.heap.size N M t u w ∧ Below w0.heap.size w0 w := by
  obtain ⟨N, hN, e1, s1⟩ := h.f4 rfl
  obtain ⟨M, hM, e2, s2⟩ := h.f5 rfl
  obtain ⟨x0, x1, x2, x3, x4, e3, b1⟩ := s1.2 rfl
  obtain ⟨y0, y1, y2, y3, y4, e4, b2⟩ := s2.2 rfl
  obtain ⟨t, ht, wt⟩ := h.f1 rfl
  obtain ⟨u, hu, wu⟩ := h.f3 rfl
  have hq : ∀ k, Own2 w0.heap.size true true t7 t8 k → k < w.heap.size → w0.heap.size ≤ k ∧ k ≠ N ∧ k ≠ M := fun k hk _ =>
    ⟨hk.1, fun e => hk.2.1 rfl (by rw [e1, e]), fun e => hk.2.2 rfl (by rw [e2, e])⟩
  refine ⟨N, M, t, u, e1, e2, ⟨⟨hN, hM, fun e => h.ne rfl rfl (by rw [e1, e2, e])⟩, wt, wu, ?_, ?_⟩, h.bel⟩
  · have h1 := ht.mono hq
    obtain ⟨g, k, x, a, ks, A, n, c, K, m, _, e⟩ := h1.parts
    rw [e] at h1 e3
    cases e3
    exact ⟨_, _, _, _, _, _, _, _, _, b1, h1⟩
  · have h1 := hu.mono hq
    obtain ⟨g, k, x, a, ks, A, n, c, K, m, _, e⟩ := h1.parts
    rw [e] at h1 e4
    cases e4
    exact ⟨_, _, _, _, _, _, _, _, _, b2, h1⟩
/-- a tree below a node of its own, stored in its place -/
theorem up_store {w : World} {T : Nat} {t : Tr} {x0 x1 x2 x3 x4 : Value} (G : Tx) (hX : w.heap[T]? = some (.cells #[x0, x1, x2, x3, x4] 27 (0, 0))) (hT : TrW (fun k => k ≠ T) w (.agg #[x0, x1, x2, x3, x4]) t) {w9 : World}
    (e : ((((((w.alloc (.cells #[x0, x1, x2, x3, x4] 27 (0, 0))).setCell ⟨T, 0, none⟩ (.string G)).setCell ⟨T, 1, none⟩ (.string ⟨#[]⟩)).setCell ⟨T, 2, none⟩ (.string ⟨#[]⟩)).setCell ⟨T, 3, none⟩ (.slice none 0 0)).setCell ⟨T, 4, none⟩ (.slice (some ⟨w.heap.size, 0, none⟩) 1 1)) = w9) :
    Ts (fun k => k ≠ T) w9 T (.mk G ⟨#[]⟩ ⟨#[]⟩ [] [t]) ∧ Kp (fun k => k = T) w w9 := by
  have hl := blk_lt hX
  have hs := set5 (w.alloc (.cells #[x0, x1, x2, x3, x4] 27 (0, 0))) T 27 (.string G) (.string ⟨#[]⟩) (.string ⟨#[]⟩) (.slice none 0 0) (.slice (some ⟨w.heap.size, 0, none⟩) 1 1) (blk_alloc hX _) rfl
  rw [e] at hs
  have hb := (Below.refl w.heap.size w).alloc (Nat.le_refl _) (.cells #[x0, x1, x2, x3, x4] 27 (0, 0))
  have hn := (hs.2.block w.heap.size (by simp) (by omega)).trans (blk_new w (.cells #[x0, x1, x2, x3, x4] 27 (0, 0)))
  have ht := (hT.call hb).frame (fun k hk hl => hs.2.block k hl hk)
  exact ⟨⟨_, _, _, _, _, _, _, _, _, hs.1, trw_one (at_nil _ w9) (by simp) (Nat.le_refl 1) (show w.heap.size ≠ T by omega) hn ht⟩, (Kp.of_below hb _).trans hs.2 (fun i _ h => h)⟩
end Go.Proofs.Ytolklphenllhpaa
