/-
  append(v, x...) of numbers, v the call's own, x any that is read; parts of what is read.
-/
import Derived.Test.YtdbnhpghemlkbaaSme
import Derived.Test.YtdbnhpghemlkbaaVee
namespace Go.Proofs.Ytdbnhpghemlkbaa
open Go.RowKit Go.PlainAid Dm
set_option maxRecDepth 100000

theorem Ni.take {w : World} {A : Option Addr} {n c : Nat} {l : List Nat} (h : Ni w (.slice A n c) l) (k : Nat) (hk : k ≤ l.length) : Ni w (.slice A k c) (l.take k) := by
  obtain ⟨A', cap, e, h2, h3, h4⟩ := h
  cases e
  have hl : (l.take k).length = k := by simp; omega
  refine ⟨A, c, by rw [hl], by omega, h3, fun i hi => ?_⟩
  rw [hl] at hi
  obtain ⟨b, o, ha, hc⟩ := h4 i (by omega)
  refine ⟨b, o, ha, ?_⟩
  rw [hc]
  simp [List.getD, List.getElem?_take_of_lt hi]
theorem Ni.rest {w : World} {A : Option Addr} {n c : Nat} {l : List Nat} (h : Ni w (.slice A n c) l) (k : Nat) (hk : k ≤ l.length) {A2 : Option Addr} {n2 c2 : Nat} (hn : n2 = l.length - k) (hc2 : c2 = c - k) (hA : ∀ b o, A = some ⟨b, o, none⟩ → k < l.length → A2 = some ⟨b, o + k, none⟩) (hz : A2 = none → A = none) : Ni w (.slice A2 n2 c2) (l.drop k) := by
  obtain ⟨A', cap, e, h2, h3, h4⟩ := h
  cases e
  have hl : (l.drop k).length = l.length - k := by simp
  refine ⟨A2, c2, by rw [hl, hn], by omega, fun e => by have := h3 (hz e); omega, fun i hi => ?_⟩
  rw [hl] at hi
  obtain ⟨b, o, ha, hc⟩ := h4 (k + i) (by omega)
  refine ⟨b, o + k, hA b o ha (by omega), ?_⟩
  rw [Nat.add_assoc, hc]
  simp [List.getD, List.getElem?_drop]

theorem run_cat {w : World} (ty : TypeId) (B : Nat) (v : Value) (xs : List Nat) (hown : w.ownsRow B 3 1 v xs.length (niC xs)) (hB : B ≤ w.heap.size) (sv : Value) (ys : List Nat) (hs : Ni w sv ys) (hn : xs.length ≤ 100000000) (hm : ys.length ≤ 100000000) :
    ∃ v' w', (Builtin.append_ #[51, 51] ty #[v, sv]).run Try.prog w = .ok v' w' ∧ w'.ownsRow B 3 1 v' (xs ++ ys).length (niC (xs ++ ys)) ∧ w.grownBy w' v.ownBlock ∧ (v'.ownBlock = v.ownBlock ∨ v'.ownBlock = some w.heap.size) := by
  obtain ⟨A, cap, rfl, h2, h3, h4⟩ := hs
  cases A with
  | none =>
    have h0 : cap = 0 := h3 rfl
    subst h0
    obtain rfl : ys = [] := List.eq_nil_of_length_eq_zero (by omega)
    obtain ⟨i0, hi, hz0, hz1, hz2⟩ := info_parts elI.info
    rw [List.append_nil]
    exact ⟨v, w, run_append_owned_none (w := w) B 51 ty 3 i0 1 elI.und hi v xs.length (niC xs) hown, hown, ⟨rfl, rfl, rfl, Nat.le_refl _, fun _ _ _ => rfl⟩, Or.inl rfl⟩
  | some ad =>
    have hcell : ∀ j u, (niC ys)[j]? = some u → w.cell? (ad.add j) = some u := by
      intro j u hu
      have hj : j < ys.length := by
        have := (List.getElem?_eq_some_iff.1 hu).1
        rwa [niC_len] at this
      obtain ⟨b, o, e, hc⟩ := h4 j hj
      cases e
      rw [niC_get ys j hj] at hu
      rw [Addr.add_lit, hc]
      exact hu
    obtain ⟨v', w', hr, h5, h6, h7⟩ := run_app elI ty B v xs.length (niC xs) hown hB ad ys.length cap (niC ys) (by rw [niC_len, Nat.mul_one]) hcell (niC_one ys) hn hm
    refine ⟨v', w', hr, ?_, h6, h7⟩
    rw [List.length_append, niC_app]
    exact h5
theorem wp_cat {o : Oper} {a : Act} {K : Act → World → Prop} {Q : Exit → Act → World → Prop} (w : World) (s x : Operand) (ho : o.op = .call { callee := .builtin .append, args := #[s, x], argTypes := #[51, 51] }) (B : Nat) (v : Value) (xs : List Nat) (hs : a.eval s = v)
    (hown : w.ownsRow B 3 1 v xs.length (niC xs)) (hB : B ≤ w.heap.size) (sv : Value) (ys : List Nat) (hx : a.eval x = sv) (hr : Ni w sv ys) (hn : xs.length ≤ 100000000) (hm : ys.length ≤ 100000000)
    (h : ∀ v' w', w'.ownsRow B 3 1 v' (xs ++ ys).length (niC (xs ++ ys)) → w.grownBy w' v.ownBlock → (v'.ownBlock = v.ownBlock ∨ v'.ownBlock = some w.heap.size) → K (a.put o.dst v') w') : o.wp Try.prog a w K Q := by
  obtain ⟨v', w', hr, h2, h3, h4⟩ := run_cat o.type B v xs hown hB sv ys hr hn hm
  unfold Oper.wp execOp
  simp only [ho, resolve, invoke, builtin, Sem.run_bind, Sem.run_pure, Result.andThen_ok, List.map_toArray, List.map_cons, List.map_nil, hs, hx, hr]
  exact h v' w' h2 h3 h4
theorem ni_one {w : World} {b x : Nat} (h : w.heap[b]? = some (.cells #[.int .i64 (x : Int)] 3 (0, 0))) : Ni w (.slice (some ⟨b, 0, none⟩) 1 1) [x] := by
  refine ⟨some ⟨b, 0, none⟩, 1, rfl, Nat.le_refl _, (fun e => by cases e), fun i hi => ⟨b, 0, rfl, ?_⟩⟩
  obtain rfl : i = 0 := by simpa using hi
  rw [blk_cell h]
  rfl
theorem insL_cat (l : List Nat) (k c : Nat) : (([] ++ l.take k) ++ [c]) ++ l.drop k = insL l k c := by
  unfold insL
  simp
end Go.Proofs.Ytdbnhpghemlkbaa
