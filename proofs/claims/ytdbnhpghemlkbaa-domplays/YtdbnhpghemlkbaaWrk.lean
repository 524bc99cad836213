/-
  A walk over all nodes, under way: the dom, a map of numbers to numbers, rows of the call's own. No walk.
-/
import Derived.Test.YtdbnhpghemlkbaaGsm
import Derived.Test.YtdbnhpghemlkbaaCat
import Derived.Maps.OwnOps
import Derived.Maps.OwnSet
import Derived.Maps.Views
import Derived.Maps.RangeWalk
import Derived.BigFrame
namespace Go.Proofs.Ytdbnhpghemlkbaa
open Go.RowKit Go.PlainAid Go.Maps Dm
set_option maxRecDepth 100000

theorem law3 : Keyed Try.prog 3 := int_keyed Try.underlying3
theorem zero3 (w : World) : (zeroValue 3).run Try.prog w = .ok (.int .i64 0) w := by kernel_rfl
theorem wf_nat (x : Nat) (h : x ≤ 1000) : (Lit.int .i64 (x : Int)).wf = true := by
  simp [Lit.wf, IntKind.min, IntKind.max, IntKind.bits, IntKind.signed]
  omega
/-- block b is a map that holds 1 for each of V, and nothing else -/
def MpD (V : List Nat) (D : DataW Unit) : Prop := Maps.size D = V.length ∧ (∀ x : Nat, x ≤ 1000 → D.atKey (.int .i64 (x : Int)) (.lit (.int .i64 0)) = .lit (.int .i64 (if x ∈ V then 1 else 0))) ∧ ∀ kl, Maps.has D kl = true → ∃ x ∈ V, kl = .int .i64 (x : Int)
def Mp (b : Nat) (V : List Nat) (w : World) : Prop := ∃ D : DataW Unit, w.ownsMap Try.prog 3 (plainElem Try.prog 3) b V.length D ∧ MpD V D
theorem mp_new (w : World) : Mp w.heap.size [] (w.alloc (.map #[] 0)) :=
  ⟨.map [], World.ownsMap_made _ _ _ _, rfl, fun _ _ => rfl, fun kl h => by cases h⟩
theorem Mp.kept {b : Nat} {V : List Nat} {w w' : World} {row : Option Nat} (h : Mp b V w) (hg : w.grownBy w' row) (hr : some b ≠ row) : Mp b V w' := by
  obtain ⟨D, h1, h2⟩ := h
  exact ⟨D, h1.kept hg hr, h2⟩
theorem Mp.lt {b : Nat} {V : List Nat} {w : World} (h : Mp b V w) : b < w.heap.size := by
  obtain ⟨D, h1, h2⟩ := h
  exact h1.lt
theorem below_grown {w w' : World} (hb : Below w.heap.size w w') : w.grownBy w' none := ⟨hb.os, hb.tape, hb.output, hb.size, fun i hi _ => hb.block i hi⟩
theorem grown_kp {w w' : World} {row : Option Nat} (hg : w.grownBy w' row) : Kp (fun k => row = some k) w w' := (Kp.refl _ w).grown hg (fun _ _ e => e)
theorem MpD.put {V : List Nat} {D : DataW Unit} (h : MpD V D) (hT : Tidy D) {x : Nat} (hx : x ≤ 1000) (hn : x ∉ V) : MpD (x :: V) (D.put (.int .i64 (x : Int)) (.lit (.int .i64 1))) := by
  obtain ⟨h1, h2, h3⟩ := h
  have hh : Maps.has D (.int .i64 (x : Int)) = false := by
    cases e : Maps.has D (.int .i64 (x : Int)) with
    | false => rfl
    | true =>
      obtain ⟨y, hy, e2⟩ := h3 _ e
      injection e2 with _ e3
      have : x = y := by omega
      exact absurd (this ▸ hy) hn
  refine ⟨?_, fun t ht => ?_, fun kl hk => ?_⟩
  · rw [size_put hT, hh]
    simp [h1]
  · by_cases e : t = x
    · subst e
      rw [atKey_put_same hT.isMap (by trivial)]
      simp
    · rw [atKey_put_other (by intro he; apply e; injection he with _ he; omega), h2 t ht]
      simp [e]
  · by_cases e : kl = .int .i64 (x : Int)
    · exact ⟨x, by simp, e⟩
    · rw [has_put_other e] at hk
      obtain ⟨y, hy, e2⟩ := h3 kl hk
      exact ⟨y, by simp [hy], e2⟩

/-- the dom leaves as it is what is none of its own -/
theorem Mine.kp {ro : Ros} {D B : Nat} {s : St} {w0 w w' : World} {S : Nat → Prop} (h : Mine mP ro D s B w0 w) (hk : Kp S w w') (hS : ∀ k, S k → ro k = 0 ∧ B ≤ k) : Mine mP ro D s B w0 w' := by
  obtain ⟨h1, h2, h3, h4⟩ := h
  refine ⟨h1.apart (ro2 := fun k => if ro k = 0 then 1 else 0) (S := fun _ => True) (hk.mono (fun _ _ hs => ⟨by rw [if_pos (hS _ hs).1]; decide, trivial⟩)) (fun k hk => if_neg hk), h2, h3.trans (hk.below h4 (fun k hlt hs => by have := (hS k hs).2; omega)), Nat.le_trans h4 hk.size⟩

theorem owns_down {w : World} {a b n : Nat} {e : TypeId} {size : Nat} {v : Value} {xs : List Value} (h : w.ownsRow a e size v n xs) (hb : b ≤ a) : w.ownsRow b e size v n xs := by
  obtain ⟨h1, h2⟩ := h
  refine ⟨h1, h2.imp id ?_⟩
  rintro ⟨g, cap, cur, e1, e2, e3⟩
  exact ⟨g, cap, cur, e1, Nat.le_trans hb e2, e3⟩
structure W5 (w0 : World) (D : Nat) (s : St) (mb : Nat) (V : List Nat) (rv : Value) (R : List Nat) (sv : Value) (st : List Nat) (kv : Value) (ks : List Nat) (w : World) : Prop where
  dom : ∃ ro, Mine mP ro D s w0.heap.size w0 w ∧ ro mb = 0 ∧ (∀ g, rv.ownBlock = some g → ro g = 0) ∧ (∀ g, sv.ownBlock = some g → ro g = 0) ∧ (∀ g, kv.ownBlock = some g → ro g = 0)
  lo : w0.heap.size ≤ mb
  mp : Mp mb V w
  r : w.ownsRow w0.heap.size 3 1 rv R.length (niC R)
  t : w.ownsRow w0.heap.size 3 1 sv st.length (niC st)
  k : w.ownsRow w0.heap.size 3 1 kv ks.length (niC ks)
  nr : some mb ≠ rv.ownBlock
  nt : some mb ≠ sv.ownBlock
  nk : some mb ≠ kv.ownBlock
  rt : ∀ g, rv.ownBlock = some g → sv.ownBlock ≠ some g
  kt : ∀ g, kv.ownBlock = some g → sv.ownBlock ≠ some g
section
variable {w0 w w' : World} {D : Nat} {s : St} {mb : Nat} {V R st ks : List Nat} {rv sv kv : Value}
theorem W5.bw (h : W5 w0 D s mb V rv R sv st kv ks w) : Below w0.heap.size w0 w := by
  obtain ⟨ro, h1, _⟩ := h.dom
  exact h1.2.2.1
theorem W5.size (h : W5 w0 D s mb V rv R sv st kv ks w) : w0.heap.size ≤ w.heap.size := by
  obtain ⟨ro, h1, _⟩ := h.dom
  exact h1.2.2.2
theorem W5.call (h : W5 w0 D s mb V rv R sv st kv ks w) (hb : Below w.heap.size w w') : W5 w0 D s mb V rv R sv st kv ks w' := by
  obtain ⟨ro, h1, h2⟩ := h.dom
  have same : ∀ {v : Value} {l : List Nat}, w.ownsRow w0.heap.size 3 1 v l.length (niC l) → w'.ownsRow w0.heap.size 3 1 v l.length (niC l) := fun h => owns_sameB h (fun g hg => hb.block g (h.lt g hg).2)
  exact ⟨⟨ro, h1.call hb, h2⟩, h.lo, h.mp.kept (below_grown hb) (by simp), same h.r, same h.t, same h.k, h.nr, h.nt, h.nk, h.rt, h.kt⟩
theorem W5.map {V' : List Nat} (h : W5 w0 D s mb V rv R sv st kv ks w) (hg : w.grownBy w' (some mb)) (hm : Mp mb V' w') : W5 w0 D s mb V' rv R sv st kv ks w' := by
  obtain ⟨ro, h1, h2, h3⟩ := h.dom
  have hk := grown_kp hg
  have same : ∀ {v : Value} {l : List Nat}, w.ownsRow w0.heap.size 3 1 v l.length (niC l) → some mb ≠ v.ownBlock → w'.ownsRow w0.heap.size 3 1 v l.length (niC l) := fun h hn => owns_sameB h (fun g hg => hk.block g (h.lt g hg).2 (fun e => hn (by rw [e]; exact hg.symm)))
  exact ⟨⟨ro, h1.kp hk (fun k e => by cases e; exact ⟨h2, h.lo⟩), h2, h3⟩, h.lo, hm, same h.r h.nr, same h.t h.nt, same h.k h.nk, h.nr, h.nt, h.nk, h.rt, h.kt⟩
theorem W5.push {sv' : Value} {st' : List Nat} (h : W5 w0 D s mb V rv R sv st kv ks w) (ho : w'.ownsRow w0.heap.size 3 1 sv' st'.length (niC st')) (hg : w.grownBy w' sv.ownBlock) (hv : sv'.ownBlock = sv.ownBlock ∨ sv'.ownBlock = some w.heap.size) : W5 w0 D s mb V rv R sv' st' kv ks w' := by
  obtain ⟨ro, h1, h2, h3, h4, h5⟩ := h.dom
  have hk := grown_kp hg
  have same : ∀ {v : Value} {l : List Nat}, w.ownsRow w0.heap.size 3 1 v l.length (niC l) → (∀ g, v.ownBlock = some g → sv.ownBlock ≠ some g) → w'.ownsRow w0.heap.size 3 1 v l.length (niC l) := fun h hn => owns_sameB h (fun g hg => hk.block g (h.lt g hg).2 (hn g hg))
  have old : ∀ {v : Value} {l : List Nat}, w.ownsRow w0.heap.size 3 1 v l.length (niC l) → (∀ g, v.ownBlock = some g → sv.ownBlock ≠ some g) → ∀ g, v.ownBlock = some g → sv'.ownBlock ≠ some g := fun h hn g hg e => by
    rcases hv with e2 | e2
    · exact hn g hg (by rw [← e2]; exact e)
    · rw [e2] at e
      cases e
      have := (h.lt _ hg).2
      omega
  refine ⟨⟨ro, h1.kp hk (fun k e => ⟨h4 k e, (h.t.lt k e).1⟩), h2, h3, fun g hg => ?_, h5⟩, h.lo, h.mp.kept hg h.nt, same h.r h.rt, ho, same h.k h.kt, h.nr, fun e => ?_, h.nk, old h.r h.rt, old h.k h.kt⟩
  · rcases hv with e | e
    · exact h4 g (by rw [← e]; exact hg)
    · rw [e] at hg
      cases hg
      by_cases e3 : ro w.heap.size = 0
      · exact e3
      · have := h1.1.lt _ e3
        omega
  · rcases hv with e2 | e2
    · exact h.nt (by rw [← e2]; exact e)
    · rw [e2] at e
      cases e
      have := h.mp.lt
      omega
theorem W5.fresh (h : W5 w0 D s mb V rv R sv st kv ks w) : ∀ g, w.heap.size ≤ g → ∀ ro, Mine mP ro D s w0.heap.size w0 w → ro g = 0 ∧ g ≠ mb ∧ rv.ownBlock ≠ some g ∧ sv.ownBlock ≠ some g ∧ kv.ownBlock ≠ some g := by
  intro g hg ro h1
  refine ⟨?_, fun e => ?_, fun e => ?_, fun e => ?_, fun e => ?_⟩
  · by_cases e3 : ro g = 0
    · exact e3
    · have := h1.1.lt _ e3
      omega
  · have := h.mp.lt
    omega
  · have := (h.r.lt g e).2
    omega
  · have := (h.t.lt g e).2
    omega
  · have := (h.k.lt g e).2
    omega
theorem W5.newk {kv' : Value} {ks' : List Nat} (h : W5 w0 D s mb V rv R sv st kv ks w) (hb : Below w.heap.size w w') (ho : w'.ownsRow w.heap.size 3 1 kv' ks'.length (niC ks')) : W5 w0 D s mb V rv R sv st kv' ks' w' := by
  have h' := h.call hb
  obtain ⟨ro, h1, h2, h3, h4, h5⟩ := h.dom
  have F := fun g hg => h.fresh g ((ho.lt g hg).1) ro h1
  obtain ⟨rn, g1, g2, g3, g4, g5⟩ := h'.dom
  exact ⟨⟨ro, h1.call hb, h2, h3, h4, fun g hg => (F g hg).1⟩, h.lo, h'.mp, h'.r, h'.t, owns_down ho h.size, h.nr, h.nt, fun e => (F mb e.symm).2.1 rfl, h.rt, fun g hg => (F g hg).2.2.2.1⟩
theorem W5.newt {sv' : Value} {st' : List Nat} (h : W5 w0 D s mb V rv R sv st kv ks w) (hb : Below w.heap.size w w') (ho : w'.ownsRow w.heap.size 3 1 sv' st'.length (niC st')) : W5 w0 D s mb V rv R sv' st' kv ks w' := by
  have h' := h.call hb
  obtain ⟨ro, h1, h2, h3, h4, h5⟩ := h.dom
  have F := fun g hg => h.fresh g ((ho.lt g hg).1) ro h1
  exact ⟨⟨ro, h1.call hb, h2, h3, fun g hg => (F g hg).1, h5⟩, h.lo, h'.mp, h'.r, owns_down ho h.size, h'.k, h.nr, fun e => (F mb e.symm).2.1 rfl, h.nk, fun g hg e => (F g e).2.2.1 hg, fun g hg e => (F g e).2.2.2.2 hg⟩
/-- the stack's last one taken off -/
theorem W5.pop {A : Option Addr} {n c : Nat} (h : W5 w0 D s mb V rv R (.slice A n c) st kv ks w) (init : List Nat) (x : Nat) (he : st = init ++ [x]) : W5 w0 D s mb V rv R (.slice A init.length c) init kv ks w := by
  obtain ⟨hl, hw⟩ := h.t
  rcases hw with ⟨_, h0⟩ | ⟨g, cap, cur, e, h1, h2, h3, h4, h5, h6⟩
  · rw [he] at h0
    simp at h0
  · cases e
    refine ⟨h.dom, h.lo, h.mp, h.r, ⟨by rw [niC_len, Nat.mul_one], Or.inr ⟨g, c, cur, rfl, h1, h2, ?_, h4, h5, ?_⟩⟩, h.k, h.nr, h.nt, h.nk, h.rt, h.kt⟩
    · rw [he] at h3
      simp at h3
      omega
    · rw [he, niC_app] at h6
      simp only [List.length_append, List.length_singleton, Nat.mul_one] at h6 ⊢
      have := congrArg (List.take init.length) h6
      rw [List.take_take, Nat.min_eq_left (Nat.le_succ _), List.take_left' (niC_len init)] at this
      exact this
end
/-- fewer wait than stand below -/
theorem pres_len {nd : Nat → Nd} {ks L : List Nat} (h : Pres nd ks L) : ks.length ≤ L.length := by
  induction h with
  | nil => exact Nat.le_refl _
  | cons _ _ _ ih =>
    simp only [List.length_cons, List.length_append]
    omega
end Go.Proofs.Ytdbnhpghemlkbaa
