/-
  append(v, x...), x as it is read.
-/
import Derived.Test.YtnnmbpghkflepaaDoorBase
import Derived.Laws.AppendOwnNone
namespace Go.Proofs.YtnnmbpghkflepaaDoor
open Go.RowKit Go.PlainAid
set_option maxRecDepth 100000

theorem Ss.cells {w : World} {A : Option Addr} {n c : Nat} {l : List ByteArray} (h : Ss w (.slice A n c) l) (ad : Addr) (ha : A = some ad) : ∀ j u, (l.flatMap stC)[j]? = some u → w.cell? (ad.add j) = some u := by
  obtain ⟨A', cap, e, _, _, h3⟩ := h
  simp only [Value.slice.injEq] at e
  obtain ⟨rfl, _, rfl⟩ := e
  intro j u hu
  have hj : j < l.length := by
    have := (List.getElem?_eq_some_iff.1 hu).1
    rw [stC_len] at this; omega
  obtain ⟨b, o, e, hc⟩ := h3 j hj
  rw [ha] at e
  cases e
  rw [Addr.add_lit, hc, ← hu, stC_map]
  simp [List.getD, hj]
theorem Ps.cells {w : World} {A : Option Addr} {n c : Nat} {l : List Pr} (h : Ps w (.slice A n c) l) (ad : Addr) (ha : A = some ad) : ∀ j u, (l.flatMap prC)[j]? = some u → w.cell? (ad.add j) = some u := by
  obtain ⟨A', cap, e, _, _, h3⟩ := h
  simp only [Value.slice.injEq] at e
  obtain ⟨rfl, _, rfl⟩ := e
  intro j u hu
  have hj : j < l.length * 2 := by
    have := (List.getElem?_eq_some_iff.1 hu).1
    rw [prC_len] at this; omega
  obtain ⟨i, hi⟩ : ∃ i, j = i * 2 ∨ j = i * 2 + 1 := ⟨j / 2, by omega⟩
  have hil : i < l.length := by omega
  obtain ⟨b, o, e, hc, hd⟩ := h3 i hil
  rw [ha] at e
  cases e
  rcases hi with rfl | rfl
  · rw [Addr.add_lit, hc, ← hu, (prC_at l i hil).1]
  · rw [Addr.add_lit, ← Nat.add_assoc, hd, ← hu, (prC_at l i hil).2]
theorem Ss.len {w : World} {A : Option Addr} {n c : Nat} {l : List ByteArray} (h : Ss w (.slice A n c) l) : l.length = n ∧ n ≤ c ∧ (A = none → c = 0) := by
  obtain ⟨A', cap, e, h1, h2, _⟩ := h
  simp only [Value.slice.injEq] at e
  obtain ⟨rfl, rfl, rfl⟩ := e
  exact ⟨rfl, h1, h2⟩
theorem Ps.len {w : World} {A : Option Addr} {n c : Nat} {l : List Pr} (h : Ps w (.slice A n c) l) : l.length = n ∧ n ≤ c ∧ (A = none → c = 0) := by
  obtain ⟨A', cap, e, h1, h2, _⟩ := h
  simp only [Value.slice.injEq] at e
  obtain ⟨rfl, rfl, rfl⟩ := e
  exact ⟨rfl, h1, h2⟩

theorem wp_appSs {o : Oper} {a : Act} {K : Act → World → Prop} {Q : Exit → Act → World → Prop} (w : World) (s x : Operand)
    (ho : o.op = .call { callee := .builtin .append, args := #[s, x], argTypes := #[27, 27] })
    (B : Nat) (w0 : World) (v : Value) (xs : List ByteArray) (hs : a.eval s = v) (hown : OwnS B w0 v xs w) (hl : xs.length ≤ 1000000000)
    (A : Option Addr) (m c : Nat) (ys : List ByteArray) (hx : a.eval x = .slice A m c) (hss : Ss w (.slice A m c) ys) (hm1 : ys.length ≤ 10)
    (h : ∀ v' w', OwnS B w0 v' (xs ++ ys) w' → w.grownBy w' v.ownBlock → K (a.put o.dst v') w') : Oper.wp Tryd.prog o a w K Q := by
  obtain ⟨hm, hc, hn⟩ := hss.len
  cases A with
  | none =>
    have hc0 := hn rfl
    subst hc0
    obtain rfl : m = 0 := by omega
    obtain rfl : ys = [] := List.eq_nil_of_length_eq_zero hm
    obtain ⟨i0, hi, hz0, hz1, hz2⟩ := info_parts info9
    have hr := run_append_owned_none (P := Tryd.prog) (w := w) B 27 o.type 9 i0 1 Tryd.underlying27 hi v _ _ hown.1
    unfold Oper.wp execOp
    simp only [ho, resolve, invoke, builtin, Sem.run_bind, Sem.run_pure, Result.andThen_ok, List.map_toArray, List.map_cons, List.map_nil, hs, hx, hr]
    exact h v w (by rw [List.append_nil]; exact hown) (World.grownBy.refl _ _)
  | some ad => exact wp_appS w s x ho B w0 v xs hs hown hl ad m c ys hx hm (by omega) (hss.cells ad rfl) fun v' w' h2 h3 _ => h v' w' h2 h3
theorem wpList_appSs {ops : Array Oper} {rest : List Oper} {o : Oper} {a : Act} {Q : Exit → Act → World → Prop} (w : World) (hgd : o.guard = none) (s x : Operand)
    (ho : o.op = .call { callee := .builtin .append, args := #[s, x], argTypes := #[27, 27] })
    (B : Nat) (w0 : World) (v : Value) (xs : List ByteArray) (hs : a.eval s = v) (hown : OwnS B w0 v xs w) (hl : xs.length ≤ 1000000000)
    (A : Option Addr) (m c : Nat) (ys : List ByteArray) (hx : a.eval x = .slice A m c) (hss : Ss w (.slice A m c) ys) (hm1 : ys.length ≤ 10)
    (h : ∀ v' w', OwnS B w0 v' (xs ++ ys) w' → w.grownBy w' v.ownBlock → wpList Tryd.prog ops Q rest (a.put o.dst v') w') : wpList Tryd.prog ops Q (o :: rest) a w :=
  wpList_plain hgd fun _ hK => wp_appSs w s x ho B w0 v xs hs hown hl A m c ys hx hss hm1 fun v' w' h2 h3 => hK _ _ (h v' w' h2 h3)
theorem wp_appPs {o : Oper} {a : Act} {K : Act → World → Prop} {Q : Exit → Act → World → Prop} (w : World) (s x : Operand)
    (ho : o.op = .call { callee := .builtin .append, args := #[s, x], argTypes := #[24, 24] })
    (B : Nat) (w0 : World) (v : Value) (xs : List Pr) (hs : a.eval s = v) (hown : OwnP B w0 v xs w) (hl : xs.length ≤ 1000000000)
    (A : Option Addr) (m c : Nat) (ys : List Pr) (hx : a.eval x = .slice A m c) (hss : Ps w (.slice A m c) ys) (hm1 : ys.length ≤ 10)
    (h : ∀ v' w', OwnP B w0 v' (xs ++ ys) w' → w.grownBy w' v.ownBlock → K (a.put o.dst v') w') : Oper.wp Tryd.prog o a w K Q := by
  obtain ⟨hm, hc, hn⟩ := hss.len
  cases A with
  | none =>
    have hc0 := hn rfl
    subst hc0
    obtain rfl : m = 0 := by omega
    obtain rfl : ys = [] := List.eq_nil_of_length_eq_zero hm
    obtain ⟨i0, hi, hz0, hz1, hz2⟩ := info_parts info31
    have hr := run_append_owned_none (P := Tryd.prog) (w := w) B 24 o.type 31 i0 2 Tryd.underlying24 hi v _ _ hown.1
    unfold Oper.wp execOp
    simp only [ho, resolve, invoke, builtin, Sem.run_bind, Sem.run_pure, Result.andThen_ok, List.map_toArray, List.map_cons, List.map_nil, hs, hx, hr]
    exact h v w (by rw [List.append_nil]; exact hown) (World.grownBy.refl _ _)
  | some ad => exact wp_appP w s x ho B w0 v xs hs hown hl ad m c ys hx hm (by omega) (hss.cells ad rfl) fun v' w' h2 h3 _ => h v' w' h2 h3
theorem wpList_appPs {ops : Array Oper} {rest : List Oper} {o : Oper} {a : Act} {Q : Exit → Act → World → Prop} (w : World) (hgd : o.guard = none) (s x : Operand)
    (ho : o.op = .call { callee := .builtin .append, args := #[s, x], argTypes := #[24, 24] })
    (B : Nat) (w0 : World) (v : Value) (xs : List Pr) (hs : a.eval s = v) (hown : OwnP B w0 v xs w) (hl : xs.length ≤ 1000000000)
    (A : Option Addr) (m c : Nat) (ys : List Pr) (hx : a.eval x = .slice A m c) (hss : Ps w (.slice A m c) ys) (hm1 : ys.length ≤ 10)
    (h : ∀ v' w', OwnP B w0 v' (xs ++ ys) w' → w.grownBy w' v.ownBlock → wpList Tryd.prog ops Q rest (a.put o.dst v') w') : wpList Tryd.prog ops Q (o :: rest) a w :=
  wpList_plain hgd fun _ hK => wp_appPs w s x ho B w0 v xs hs hown hl A m c ys hx hss hm1 fun v' w' h2 h3 => hK _ _ (h v' w' h2 h3)
end Go.Proofs.YtnnmbpghkflepaaDoor
