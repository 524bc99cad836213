/-
  append at any element type: onto a row of the call's own, and onto nil (a copy); listOf at attributes, numbers, nodes.
-/
import Derived.Test.YtdbnhpghemlkbaaGet
import Derived.Laws.AppendOwnNone
import Derived.Deep.RegionHeld3
import Derived.Deep.RegionLaw
namespace Go.Proofs.Ytdbnhpghemlkbaa
open Go.RowKit Go.PlainAid Dm
set_option maxRecDepth 100000

/-- an element type: its slice's type, its own, its cells, its bytes, its zero -/
structure Elm (t e : TypeId) (size bytes : Nat) (z : Value) : Prop where
  und : Try.prog.underlying t = some (.slice e)
  info : (Try.prog.info? e).map (fun i => (i.zero, i.size, i.bytes)) = some (some z, size, bytes)
  zs : z.cells.size = size
  pos : 0 < size
  by1 : bytes ≤ 200
theorem elI : Elm 51 3 1 8 (.int .i64 0) := ⟨Try.underlying51, by kernel_rfl, rfl, by omega, by omega⟩
theorem elA : Elm 28 45 2 32 (.agg #[.string ⟨#[]⟩, .string ⟨#[]⟩]) := ⟨Try.underlying28, by kernel_rfl, rfl, by omega, by omega⟩
theorem elN : Elm 61 60 7 112 (.agg #[.int .i64 0, .string ⟨#[]⟩, .string ⟨#[]⟩, .string ⟨#[]⟩, .slice none 0 0, .int .i64 0, .slice none 0 0]) := ⟨Try.underlying61, by kernel_rfl, rfl, by omega, by omega⟩
theorem elR : Elm 75 74 7 112 (.agg #[.bool false, .string ⟨#[]⟩, .string ⟨#[]⟩, .string ⟨#[]⟩, .slice none 0 0, .int .i64 0, .slice none 0 0]) := ⟨Try.underlying75, by kernel_rfl, rfl, by omega, by omega⟩
theorem elT : Elm 29 31 5 96 (.agg #[.string ⟨#[]⟩, .string ⟨#[]⟩, .string ⟨#[]⟩, .slice none 0 0, .slice none 0 0]) := ⟨Try.underlying29, by kernel_rfl, rfl, by omega, by omega⟩

theorem niC_len (l : List Nat) : (niC l).length = l.length := by simp [niC]
theorem niC_one (l : List Nat) : ∀ u ∈ niC l, u.oneCell' = true := by
  intro u hu
  simp only [niC, List.mem_map] at hu
  obtain ⟨x, _, rfl⟩ := hu
  rfl
theorem niC_app (l m : List Nat) : niC (l ++ m) = niC l ++ niC m := by simp [niC]
theorem niC_get (l : List Nat) (i : Nat) (h : i < l.length) : (niC l)[i]? = some (.int .i64 (l.getD i 0 : Nat)) := by simp [niC, List.getD, h]
theorem atC_len (l : List (Tx × Tx)) : (l.flatMap atC).length = l.length * 2 := by
  induction l with
  | nil => rfl
  | cons p l ih => simp [atC] at ih ⊢; omega
theorem atC_one (l : List (Tx × Tx)) : ∀ u ∈ l.flatMap atC, u.oneCell' = true := by
  intro u hu
  simp only [List.mem_flatMap, atC] at hu
  obtain ⟨p, _, hu⟩ := hu
  simp at hu
  rcases hu with rfl | rfl <;> rfl

section
variable {t e : TypeId} {size bytes : Nat} {z : Value} {w : World}
/-- append(v, x..), as a run -/
theorem run_app (E : Elm t e size bytes z) (ty : TypeId) (B : Nat) (v : Value) (n : Nat) (xs : List Value) (hown : w.ownsRow B e size v n xs) (hB : B ≤ w.heap.size)
    (ad : Addr) (m c : Nat) (news : List Value) (hl : news.length = m * size) (hnews : ∀ j u, news[j]? = some u → w.cell? (ad.add j) = some u) (h1 : ∀ u ∈ news, u.oneCell' = true) (hn : n ≤ 100000000) (hm : m ≤ 100000000) :
    ∃ v' w', (Builtin.append_ #[t, t] ty #[v, .slice (some ad) m c]).run Try.prog w = .ok v' w' ∧ w'.ownsRow B e size v' (n + m) (xs ++ news) ∧ w.grownBy w' v.ownBlock ∧ (v'.ownBlock = v.ownBlock ∨ v'.ownBlock = some w.heap.size) := by
  obtain ⟨i0, hi, hz0, hz1, hz2⟩ := info_parts E.info
  have hb := Nat.mul_le_mul (show n + m ≤ 200000000 by omega) E.by1
  obtain ⟨v', w', hr, h2, h3, _, h5⟩ := run_append_own_at (P := Try.prog) w B t ty e i0 z size bytes E.und hi hz0 hz1 hz2 E.zs E.pos v n xs hown ad m c news hl hnews h1 (by unfold maxLen; omega) (by omega) hB
  exact ⟨v', w', hr, h2, h3, h5⟩
/-- append(nil, x..): a copy -/
theorem run_copy (E : Elm t e size bytes z) (ty : TypeId) (v : Value) (n : Nat) (xs : List Value) (hown : w.ownsRow 0 e size v n xs) (h1 : ∀ u ∈ xs, u.oneCell' = true) (hn : n ≤ 100000000) :
    ∃ v' w', (Builtin.append_ #[t, t] ty #[.slice none 0 0, v]).run Try.prog w = .ok v' w' ∧ w'.ownsRow w.heap.size e size v' n xs ∧ Below w.heap.size w w' := by
  obtain ⟨i0, hi, hz0, hz1, hz2⟩ := info_parts E.info
  rcases hown.2 with ⟨rfl, rfl⟩ | ⟨g, cap, cur, rfl, hb, hgg, rest⟩
  · have hx : xs = [] := List.eq_nil_of_length_eq_zero (by simpa using hown.1)
    subst hx
    exact ⟨_, w, run_append_owned_none (w := w) w.heap.size t ty e i0 size E.und hi (.slice none 0 0) 0 [] (World.ownsRow_nil _ _ _ _), World.ownsRow_nil _ _ _ _, Below.refl _ _⟩
  · obtain ⟨v', w', hr, h2, h3, h5⟩ := run_app E ty w.heap.size (.slice none 0 0) 0 [] (World.ownsRow_nil _ _ _ _) (Nat.le_refl _) ⟨g, 0, none⟩ n cap xs hown.1 (fun j u hu => hown.cells rfl j u hu) h1 (by omega) hn
    rw [Nat.zero_add, List.nil_append] at h2
    exact ⟨v', w', hr, h2, (Below.refl _ w).grown h3 (Nat.le_refl _) (fun k hk => by cases hk)⟩
theorem owns_zero {B n : Nat} {v : Value} {xs : List Value} (h : w.ownsRow B e size v n xs) : w.ownsRow 0 e size v n xs := by
  refine ⟨h.1, ?_⟩
  rcases h.2 with hn | ⟨g, cap, cur, rfl, hb, rest⟩
  · exact .inl hn
  · exact .inr ⟨g, cap, cur, rfl, Nat.zero_le _, rest⟩

theorem wpList_copy {ops : Array Oper} {rest : List Oper} {o : Oper} {a : Act} {Q : Exit → Act → World → Prop} (E : Elm t e size bytes z) (w : World) (hgd : o.guard = none) (s x : Operand)
    (ho : o.op = .call { callee := .builtin .append, args := #[s, x], argTypes := #[t, t] }) (v : Value) (n : Nat) (xs : List Value)
    (hs : a.eval s = .slice none 0 0) (hx : a.eval x = v) (hown : w.ownsRow 0 e size v n xs) (h1 : ∀ u ∈ xs, u.oneCell' = true) (hn : n ≤ 100000000)
    (h : ∀ v' w', w'.ownsRow w.heap.size e size v' n xs → Below w.heap.size w w' → wpList Try.prog ops Q rest (a.put o.dst v') w') : wpList Try.prog ops Q (o :: rest) a w := by
  refine wpList_plain hgd fun _ hK => ?_
  obtain ⟨v', w', hr, h2, h3⟩ := run_copy E o.type v n xs hown h1 hn
  unfold Oper.wp execOp
  simp only [ho, resolve, invoke, builtin, Sem.run_bind, Sem.run_pure, Result.andThen_ok, List.map_toArray, List.map_cons, List.map_nil, hs, hx, hr]
  exact hK _ _ (h v' w' h2 h3)
theorem wp_app {o : Oper} {a : Act} {K : Act → World → Prop} {Q : Exit → Act → World → Prop} (E : Elm t e size bytes z) (w : World) (s x : Operand)
    (ho : o.op = .call { callee := .builtin .append, args := #[s, x], argTypes := #[t, t] }) (B : Nat) (v : Value) (n : Nat) (xs : List Value)
    (hs : a.eval s = v) (hown : w.ownsRow B e size v n xs) (hB : B ≤ w.heap.size)
    (ad : Addr) (m c : Nat) (news : List Value) (hx : a.eval x = .slice (some ad) m c) (hl : news.length = m * size) (hnews : ∀ j u, news[j]? = some u → w.cell? (ad.add j) = some u) (h1 : ∀ u ∈ news, u.oneCell' = true) (hn : n ≤ 100000000) (hm : m ≤ 100000000)
    (h : ∀ v' w', w'.ownsRow B e size v' (n + m) (xs ++ news) → w.grownBy w' v.ownBlock → (v'.ownBlock = v.ownBlock ∨ v'.ownBlock = some w.heap.size) → K (a.put o.dst v') w') : o.wp Try.prog a w K Q := by
  obtain ⟨v', w', hr, h2, h3, h4⟩ := run_app E o.type B v n xs hown hB ad m c news hl hnews h1 hn hm
  unfold Oper.wp execOp
  simp only [ho, resolve, invoke, builtin, Sem.run_bind, Sem.run_pure, Result.andThen_ok, List.map_toArray, List.map_cons, List.map_nil, hs, hx, hr]
  exact h v' w' h2 h3 h4
theorem wpList_app {ops : Array Oper} {rest : List Oper} {o : Oper} {a : Act} {Q : Exit → Act → World → Prop} (E : Elm t e size bytes z) (w : World) (hgd : o.guard = none) (s x : Operand)
    (ho : o.op = .call { callee := .builtin .append, args := #[s, x], argTypes := #[t, t] }) (B : Nat) (v : Value) (n : Nat) (xs : List Value)
    (hs : a.eval s = v) (hown : w.ownsRow B e size v n xs) (hB : B ≤ w.heap.size)
    (ad : Addr) (m c : Nat) (news : List Value) (hx : a.eval x = .slice (some ad) m c) (hl : news.length = m * size) (hnews : ∀ j u, news[j]? = some u → w.cell? (ad.add j) = some u) (h1 : ∀ u ∈ news, u.oneCell' = true) (hn : n ≤ 100000000) (hm : m ≤ 100000000)
    (h : ∀ v' w', w'.ownsRow B e size v' (n + m) (xs ++ news) → w.grownBy w' v.ownBlock → (v'.ownBlock = v.ownBlock ∨ v'.ownBlock = some w.heap.size) → wpList Try.prog ops Q rest (a.put o.dst v') w') : wpList Try.prog ops Q (o :: rest) a w :=
  wpList_plain hgd fun _ hK => wp_app E w s x ho B v n xs hs hown hB ad m c news hx hl hnews h1 hn hm fun v' w' h2 h3 h4 => hK _ _ (h v' w' h2 h3 h4)
end

/-- a new row that a call answers -/
def NewR (t : TypeId) (size : Nat) (n : Nat) (xs : List Value) (w : World) (e : Ending) (w' : World) : Prop := ∃ v, e = .returned v ∧ w'.ownsRow w.heap.size t size v n xs ∧ Below w.heap.size w w'

set_option maxHeartbeats 1600000 in
theorem listOf48 (v : Value) (n : Nat) (xs : List Value) (w : World) (h : w.ownsRow 0 3 1 v n xs) (h1 : ∀ u ∈ xs, u.oneCell' = true) (hn : n ≤ 100000000) :
    Calls Try.prog 48 #[v] w (NewR 3 1 n xs w) := by
  have H := Lib.hid h
  have H1 := Lib.hid h1
  clear h h1
  go_enter Try.func48, Try.ntmps48
  go_wp2_with (refine wpList_copy elI _ rfl _ _ rfl v n xs rfl rfl H.out H1.out hn ?_; intro v3 w3 h3 h4)
  go_ret
  exact ⟨_, rfl, h3, h4⟩
set_option maxHeartbeats 1600000 in
theorem listOf42 (v : Value) (n : Nat) (xs : List Value) (w : World) (h : w.ownsRow 0 45 2 v n xs) (h1 : ∀ u ∈ xs, u.oneCell' = true) (hn : n ≤ 100000000) :
    Calls Try.prog 42 #[v] w (NewR 45 2 n xs w) := by
  have H := Lib.hid h
  have H1 := Lib.hid h1
  clear h h1
  go_enter Try.func42, Try.ntmps42
  go_wp2_with (refine wpList_copy elA _ rfl _ _ rfl v n xs rfl rfl H.out H1.out hn ?_; intro v3 w3 h3 h4)
  go_ret
  exact ⟨_, rfl, h3, h4⟩
set_option maxHeartbeats 1600000 in
theorem listOf47 (v : Value) (n : Nat) (xs : List Value) (w : World) (h : w.ownsRow 0 60 7 v n xs) (h1 : ∀ u ∈ xs, u.oneCell' = true) (hn : n ≤ 100000000) :
    Calls Try.prog 47 #[v] w (NewR 60 7 n xs w) := by
  have H := Lib.hid h
  have H1 := Lib.hid h1
  clear h h1
  go_enter Try.func47, Try.ntmps47
  go_wp2_with (refine wpList_copy elN _ rfl _ _ rfl v n xs rfl rfl H.out H1.out hn ?_; intro v3 w3 h3 h4)
  go_ret
  exact ⟨_, rfl, h3, h4⟩

section
variable {ro : Ros} {D : Nat} {s : St}
set_option maxHeartbeats 1600000 in
theorem kids29 (i : Int) (w : World) (h : Dom mP ro w D s) (hv : Inv s) (hn : (ndI s i).kids.length ≤ 1000000) :
    Calls Try.prog 29 #[.pointer (some ⟨D, 0, none⟩), .int .i64 i] w (NewR 3 1 (ndI s i).kids.length (niC (ndI s i).kids) w) := by
  go_enter Try.func29, Try.ntmps29
  go_wp2_with fail
  refine (get34 i w h hv).mono ?_
  rintro e w' ⟨av, kv, rfl, ha, hk, hb⟩
  obtain ⟨A, a, rfl, _, _⟩ := ha.shape
  have HK := Lib.hid hk.1
  obtain ⟨K, k, rfl, _, _⟩ := hk.shape
  clear ha hk
  go_wp2_with fail
  refine (listOf48 _ _ _ w' HK.out (niC_one _) (by omega)).mono ?_
  rintro e w3 ⟨v, rfl, hv3, hb3⟩
  go_wp2
  go_ret
  have hz := hb.size
  refine ⟨v, rfl, ⟨hv3.1, ?_⟩, hb.trans (hb3.mono hz)⟩
  rcases hv3.2 with hn | ⟨g, cap, cur, rfl, hbg, rest⟩
  · exact .inl hn
  · exact .inr ⟨g, cap, cur, rfl, by omega, rest⟩
end
end Go.Proofs.Ytdbnhpghemlkbaa
