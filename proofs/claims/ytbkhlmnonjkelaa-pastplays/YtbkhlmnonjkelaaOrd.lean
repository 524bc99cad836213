/-
  A region that draws its order, walked in one order that is told: what only reads (true), what may come alone (false). One check for the whole order. No program.
-/
import Derived.Test.YtbkhlmnonjkelaaInv
namespace Go.Proofs.Ytbkhlmnonjkelaa
open Go

section
variable {P : Program} {ops : Array Oper} {Q : Exit → Act → World → Prop} {md : Region.Mode} {S : World → Prop} {n : Nat}

/-- the walk in the order that is told -/
def wpOrd (P : Program) (ops : Array Oper) (Q : Exit → Act → World → Prop) (S : World → Prop) : List (Bool × Nat) → Act → World → Prop
  | [], a, w => Q .normal a w
  | (true, i) :: r, a, w => ∃ oi v, ops[i]? = some oi ∧ YieldsIf P ops S oi v a ∧ wpOrd P ops Q S r (a.put oi.dst v) w
  | (false, i) :: r, a, w => wpOp P ops Q i (fun a' w' => S w' ∧ wpOrd P ops Q S r a' w') a w
/-- may the region come so? -/
def ordB (md : Region.Mode) (ops : Array Oper) : List (Bool × Nat) → Array Bool → Bool
  | [], ls => (Region.ready md ops ls).isEmpty
  | (true, i) :: r, ls => Region.free md ops ls i && (Region.ready md ops ls).contains i && ordB md ops r (ls.setIfInBounds i true)
  | (false, i) :: r, ls => decide (Region.ready md ops ls = [i]) && ordB md ops r (ls.setIfInBounds i true)

theorem sink_ord (hs : Region.noSelect ops = true) (hn : ops.size ≤ n) (hQ : ∀ d v c a w, Q (.panic c) (Act.put a d v) w → Q (.panic c) a w) :
    ∀ (ord : List (Bool × Nat)) (m : Nat) (ls : Array Bool) (a : Act) (w : World), ord.length ≤ m → ordB md ops ord ls = true → S w → wpOrd P ops Q S ord a w → wpSink P md ops Q S n m ls a w := by
  intro ord
  induction ord with
  | nil =>
    intro m ls a w _ hb _ h
    exact sink_done (by simpa [ordB] using hb) h
  | cons x r ih =>
    intro m ls a w hm hb hS h
    obtain ⟨m, rfl⟩ : ∃ k, m = k + 1 := ⟨m - 1, by simp at hm; omega⟩
    have hm' : r.length ≤ m := by simpa using hm
    obtain ⟨t, i⟩ := x
    cases t with
    | true =>
      simp only [ordB, Bool.and_eq_true] at hb
      obtain ⟨oi, v, hi, hy, h⟩ := h
      exact sink_take0 hi hs hn hb.1.1 hb.1.2 (hQ _ _) hy hS (ih m _ _ _ hm' hb.2 hS h)
    | false =>
      simp only [ordB, Bool.and_eq_true, decide_eq_true_eq] at hb
      exact sink_one hb.1 (wpOp_mono (fun a' w' h' => ⟨Or.inr h'.1, ih m _ a' w' hm' hb.2 h'.1 h'.2⟩) h)

/-- the same, shut: nothing unfolds it -/
structure OrdW (P : Program) (ops : Array Oper) (Q : Exit → Act → World → Prop) (S : World → Prop) (ord : List (Bool × Nat)) (a : Act) (w : World) : Prop where
  out : wpOrd P ops Q S ord a w

theorem wp_region_ord {id : Nat} {a : Act} {w : World} (ord : List (Bool × Nat)) (S : World → Prop) (hm : P.follows .mixedOrders = true) (hs : Region.noSelect ops = true) (hl : ord.length ≤ ops.size) (hb : ordB .any ops ord (Array.replicate ops.size false) = true)
    (hQ : ∀ d v c a w, Q (.panic c) (Act.put a d v) w → Q (.panic c) a w) (hS : S w.drew) (h : OrdW P ops Q S ord a w.drew) : (Code.region id ops true).wp P Q a w :=
  wp_region_sink (S := S) (n := ops.size) hm (sink_ord hs (Nat.le_refl _) hQ ord _ _ _ _ hl hb hS h.out)

theorem ord_q {i : Nat} {oi : Oper} {d : Option Tmp} {v : Value} {r : List (Bool × Nat)} {a : Act} {w : World} (hi : ops[i]? = some oi) (hd : oi.dst = d) (hy : YieldsIf P ops S oi v a) (h : OrdW P ops Q S r (a.put d v) w) : OrdW P ops Q S ((true, i) :: r) a w := by
  subst hd
  exact ⟨oi, v, hi, hy, h.out⟩
theorem ord_l {i : Nat} {r : List (Bool × Nat)} {a : Act} {w : World} (h : wpOp P ops Q i (fun a' w' => S w' ∧ OrdW P ops Q S r a' w') a w) : OrdW P ops Q S ((false, i) :: r) a w :=
  ⟨wpOp_mono (fun _ _ h' => ⟨h'.1, h'.2.out⟩) h⟩
theorem ord_nil {a : Act} {w : World} (h : Q .normal a w) : OrdW P ops Q S [] a w := ⟨h⟩
end
end Go.Proofs.Ytbkhlmnonjkelaa
