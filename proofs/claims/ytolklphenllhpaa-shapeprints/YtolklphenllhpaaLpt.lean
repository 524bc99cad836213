/-
  What a loop keeps that hangs kids below a tree of its own; copies of attributes.
-/
import Derived.Test.YtolklphenllhpaaRuns
namespace Go.Proofs.Ytolklphenllhpaa
open Go.RowKit Go.PlainAid
set_option maxRecDepth 100000

theorem owns_low {w : World} {B C : Nat} {e : TypeId} {size n : Nat} {v : Value} {xs : List Value} (h : w.ownsRow B e size v n xs) (hc : C ≤ B) : w.ownsRow C e size v n xs := by
  refine ⟨h.1, ?_⟩
  rcases h.2 with hn | ⟨g, cap, cur, rfl, hb, rest⟩
  · exact .inl hn
  · exact .inr ⟨g, cap, cur, rfl, by omega, rest⟩
theorem tree_end {fn : Func} {TT : Tmp} (hf : fn.results = #[.cell TT 27]) {w3 : World} {T : Nat} {tmps : Array Value} {u0 u1 u2 u3 u4 : Value} {Q : Ending → World → Prop} (ht : tmps.getD TT undef = .pointer (some ⟨T, 0, none⟩)) (hT : w3.heap[T]? = some (.cells #[u0, u1, u2, u3, u4] 27 (0, 0))) (hq : Q (.returned (.agg #[u0, u1, u2, u3, u4])) w3) :
    bodyPost Try.prog fn Q .ret { tmps := tmps, defers := [] } w3 :=
  bodyPost_ret (v := .agg #[u0, u1, u2, u3, u4]) (results_cell_row (P := Try.prog) hf _ _ T 27 _ (0, 0) _ ht hT Try.underlying27 rfl (by kernel_rfl)) rfl hq
/-- what the loop over kids keeps: the tree so far in block T, the result's block R, its attributes, its kids -/
structure LpT (q : Nat → Prop) (w1 : World) (R Tb : Nat) (tag key text : Tx) (attrs : List Pr) (A2 : Option Addr) (a2 B : Nat) (wr : World) (v : Value) (vs : List (List Value)) (ts : List Tr) : Prop where
  tb : wr.heap[Tb]? = some (.cells #[.string tag, .string key, .string text, .slice A2 attrs.length a2, v] 27 (0, 0))
  rb : wr.heap[R]? = some (.cells #[.string ⟨#[]⟩, .string ⟨#[]⟩, .string ⟨#[]⟩, .slice none 0 0, .slice none 0 0] 27 (0, 0))
  at_ : Ps wr (.slice A2 attrs.length a2) attrs
  ap : ∀ a n c, (.slice A2 attrs.length a2 : Value) = .slice (some a) n c → (q a.block ∨ w1.heap.size ≤ a.block) ∧ a.block < B ∧ a.block ≠ Tb ∧ a.block ≠ R
  row : TrR B (fun k => (q k ∨ w1.heap.size ≤ k) ∧ k ≠ Tb ∧ k ≠ R) wr v vs ts
  lo : w1.heap.size ≤ B ∧ B ≤ wr.heap.size ∧ Tb < B ∧ R < B ∧ Tb ≠ R
  ro0 : ∀ k, q k → k < w1.heap.size
  nt : ¬ q Tb ∧ ¬ q R
section
variable {q : Nat → Prop} {w1 : World} {R Tb : Nat} {tag key text : Tx} {attrs : List Pr} {A2 : Option Addr} {a2 B : Nat} {wr : World} {v : Value} {vs : List (List Value)} {ts : List Tr}
theorem LpT.call (h : LpT q w1 R Tb tag key text attrs A2 a2 B wr v vs ts) {w' : World} (hb : Below wr.heap.size wr w') : LpT q w1 R Tb tag key text attrs A2 a2 B w' v vs ts :=
  ⟨blk_call h.tb hb, blk_call h.rb hb, h.at_.call hb, h.ap, h.row.call hb, ⟨h.lo.1, Nat.le_trans h.lo.2.1 hb.size, h.lo.2.2⟩, h.ro0, h.nt⟩
/-- a tree more, behind the append and the store -/
theorem LpT.push (h : LpT q w1 R Tb tag key text attrs A2 a2 B wr v vs ts) {x : List Value} {t : Tr} (hx : x.length = 5 ∧ ∀ u ∈ x, u.oneCell' = true) (L : Nat) (hLB : B ≤ L) (hLv : ∀ g, v.ownBlock = some g → g < L) (ht : TrW (fun k => q k ∨ L ≤ k) wr (.agg x.toArray) t) {w2 : World} {v2 : Value}
    (ho : w2.ownsRow B 27 5 v2 (vs.length + 1) (vs.flatten ++ x)) (hg : wr.grownBy w2 v.ownBlock) (hv : v2.ownBlock = v.ownBlock ∨ v2.ownBlock = some wr.heap.size) :
    LpT q w1 R Tb tag key text attrs A2 a2 B (w2.setCell ⟨Tb, 4, none⟩ v2) v2 (vs ++ [x]) (ts ++ [t]) := by
  obtain ⟨l1, l2, l3, l4, l5⟩ := h.lo
  have hvB : ∀ g, v.ownBlock = some g → B ≤ g := fun g hg => (h.row.own.lt g hg).1
  have hv2B : ∀ g, v2.ownBlock = some g → B ≤ g := fun g hg => (ho.lt g hg).1
  have hbk : ∀ k, k < B → w2.heap[k]? = wr.heap[k]? := fun k hk => hg.block k (by omega) (fun e => by have := hvB k e.symm; omega)
  have hk : Kp (fun k => k = Tb) w2 (w2.setCell ⟨Tb, 4, none⟩ v2) := (Kp.refl (fun k => k = Tb) w2).setCell (p := ⟨Tb, 4, none⟩) (fun _ => rfl) v2
  have htb := blk_setCell ((hbk Tb l3).trans h.tb) 4 v2
  have hrow : TrR B (fun k => (q k ∨ w1.heap.size ≤ k) ∧ k ≠ Tb ∧ k ≠ R) w2 v2 (vs ++ [x]) (ts ++ [t]) := by
    refine h.row.push hx (ht.mono (fun k hp hl => ?_)) ho hg hv
    have hroB : q k → k < w1.heap.size := h.ro0 k
    refine ⟨⟨hp.imp id (fun e => by omega), ?_, ?_⟩, fun e => ?_⟩
    · rcases hp with e | e
      · intro e2
        rw [e2] at e
        exact h.nt.1 e
      · omega
    · rcases hp with e | e
      · intro e2
        rw [e2] at e
        exact h.nt.2 e
      · omega
    · have e1 := hvB k e
      have e2 := hLv k e
      rcases hp with e3 | e3
      · have := hroB e3
        omega
      · omega
  refine ⟨htb, (Below.heap_setCell w2 _ v2 R (Ne.symm l5)).trans ((hbk R l4).trans h.rb), ?_, h.ap, hrow.kp hk (fun e => e.2.1 rfl) (fun e => by have := hv2B Tb e; omega), ⟨l1, by have := hg.size; simp [World.setCell]; omega, l3, l4, l5⟩, h.ro0, h.nt⟩
  refine h.at_.frame (p := fun k => k < B ∧ k ≠ Tb) (fun a n c e _ => ⟨(h.ap a n c e).2.1, (h.ap a n c e).2.2.1⟩) (fun k hp hl => (Below.heap_setCell w2 _ v2 k hp.2).trans (hbk k hp.1))
end

theorem atC_cells {w : World} {b o : Nat} {a : List Pr} (h : ∀ i, i < a.length → w.cell? ⟨b, o + i * 2, none⟩ = some (.string (a.getD i default).1) ∧ w.cell? ⟨b, o + i * 2 + 1, none⟩ = some (.string (a.getD i default).2)) :
    ∀ j u, (a.flatMap atC)[j]? = some u → w.cell? ((⟨b, o, none⟩ : Addr).add j) = some u := by
  intro j u hu
  have hj : j < a.length * 2 := by
    have := (List.getElem?_eq_some_iff.1 hu).1
    rwa [atC_len] at this
  have hi : j / 2 < a.length := by omega
  have h1 := h (j / 2) hi
  have h2 := atC_at a (j / 2) hi
  rw [Addr.add_lit]
  have h3 : j = j / 2 * 2 ∨ j = j / 2 * 2 + 1 := by omega
  rcases h3 with e | e
  · rw [e] at hu ⊢
    rw [h2.1] at hu
    cases hu
    exact h1.1
  · rw [e] at hu ⊢
    rw [h2.2] at hu
    cases hu
    rw [← Nat.add_assoc]
    exact h1.2
/-- append(nil, a...) where a is read -/
theorem run_copyA {w : World} (ty : TypeId) (v : Value) (a : List Pr) (h : Ps w v a) (hl : a.length ≤ 1000000) :
    ∃ v' w', (Builtin.append_ #[24, 24] ty #[.slice none 0 0, v]).run Try.prog w = .ok v' w' ∧ w'.ownsRow w.heap.size 23 2 v' a.length (a.flatMap atC) ∧ Below w.heap.size w w' := by
  obtain ⟨i0, hi, hz0, hz1, hz2⟩ := info_parts elA.info
  obtain ⟨A, cap, rfl, hc, hn, hcell⟩ := h
  cases A with
  | none =>
    have h0 := hn rfl
    have hx : a = [] := List.eq_nil_of_length_eq_zero (by omega)
    subst hx
    obtain rfl : cap = 0 := h0
    exact ⟨_, w, run_append_owned_none (w := w) w.heap.size 24 ty 23 i0 2 elA.und hi (.slice none 0 0) 0 [] (World.ownsRow_nil _ _ _ _), World.ownsRow_nil _ _ _ _, Below.refl _ _⟩
  | some ad =>
    obtain ⟨v', w', hr, h2, h3, h5⟩ := run_app elA ty w.heap.size (.slice none 0 0) 0 [] (World.ownsRow_nil _ _ _ _) (Nat.le_refl _) ad a.length cap (a.flatMap atC) (atC_len a) (fun j u hu => by
      have hj : 0 < a.length := by
        have := (List.getElem?_eq_some_iff.1 hu).1
        rw [atC_len] at this
        omega
      obtain ⟨b, o, e, _⟩ := hcell 0 hj
      cases e
      exact atC_cells (fun i hi => by
        obtain ⟨b', o', e', c1, c2⟩ := hcell i hi
        cases e'
        exact ⟨c1, c2⟩) j u hu) (atC_one a) (by omega) (by omega)
    rw [Nat.zero_add, List.nil_append] at h2
    exact ⟨v', w', hr, h2, (Below.refl _ w).grown h3 (Nat.le_refl _) (fun k hk => by cases hk)⟩
theorem wpList_copyA {ops : Array Oper} {rest : List Oper} {o : Oper} {a : Act} {Q : Exit → Act → World → Prop} (w : World) (hgd : o.guard = none) (s x : Operand)
    (ho : o.op = .call { callee := .builtin .append, args := #[s, x], argTypes := #[24, 24] }) (v : Value) (l : List Pr)
    (hs : a.eval s = .slice none 0 0) (hx : a.eval x = v) (hp : Ps w v l) (hl : l.length ≤ 1000000)
    (h : ∀ v' w', w'.ownsRow w.heap.size 23 2 v' l.length (l.flatMap atC) → Below w.heap.size w w' → wpList Try.prog ops Q rest (a.put o.dst v') w') : wpList Try.prog ops Q (o :: rest) a w := by
  refine wpList_plain hgd fun _ hK => ?_
  obtain ⟨v', w', hr, h2, h3⟩ := run_copyA o.type v l hp hl
  unfold Oper.wp execOp
  simp only [ho, resolve, invoke, builtin, Sem.run_bind, Sem.run_pure, Result.andThen_ok, List.map_toArray, List.map_cons, List.map_nil, hs, hx, hr]
  exact hK _ _ (h v' w' h2 h3)
end Go.Proofs.Ytolklphenllhpaa
