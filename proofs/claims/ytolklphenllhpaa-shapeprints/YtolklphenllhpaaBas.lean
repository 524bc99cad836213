/-
  What stage 13's walks stand on: trees, rows that a call makes, attributes and numbers as they are read.
-/
import Derived.Test.YtolklphenllhpaaProg
import Derived.Test.YtolklphenllhpaaVee
import Derived.Test.YtolklphenllhpaaPur
import Derived.Test.YtolklphenllhpaaKp
import Derived.Lib.Hide
import Derived.Laws.ResultCell
import Derived.Laws.AppendOwnNone
import Derived.StillTailTactics
import Derived.Deep.QuietTactic
import Derived.BigQuiet
import Derived.Deep.RegionHeld3
import Derived.Deep.RegionLaw
import Derived.Deep.LoopGhost
import Derived.Deep.CutBlock
import Derived.Deep.DeepCutAuto
import Derived.Deep.AppendLies
import Derived.OwnWalk
import Derived.Laws.IdiomStrings
import Derived.Laws.BytesArg
namespace Go.Proofs.Ytolklphenllhpaa
open Go.RowKit Go.PlainAid
set_option maxRecDepth 100000

abbrev Tx := ByteArray
inductive Tr where
  | mk (tag key text : Tx) (attrs : List (Tx × Tx)) (kids : List Tr) : Tr
def niC (l : List Int) : List Value := l.map (fun x : Int => Value.int .i64 x)
def atC (p : Tx × Tx) : List Value := [.string p.1, .string p.2]

theorem owns_same {w w' : World} {e : TypeId} {size n : Nat} {v : Value} {xs : List Value} (h : w.ownsRow 0 e size v n xs) (hs : ∀ g, v.ownBlock = some g → w'.heap[g]? = w.heap[g]?) : w'.ownsRow 0 e size v n xs := by
  refine ⟨h.1, ?_⟩
  rcases h.2 with hn | ⟨g, cap, cur, rfl, hb, hgg, rest⟩
  · exact .inl hn
  · exact .inr ⟨g, cap, cur, rfl, hb, (hs g rfl).trans hgg, rest⟩
theorem blk_new1 (w : World) (x y : Obj) : ((w.alloc x).alloc y).heap[w.heap.size + 1]? = some y := by
  have h := blk_new (w.alloc x) y
  have e : (w.alloc x).heap.size = w.heap.size + 1 := by simp
  rw [e] at h
  exact h
theorem beqF {a b : Int} (h : a ≠ b) : (a == b) = false := by rw [beq_eq_false_iff_ne]; exact h
theorem bneT {a b : Int} (h : a ≠ b) : (a != b) = true := by rw [bne_iff_ne]; exact h
/-- an element type: its slice's type, its own, its cells, its bytes, its zero -/
structure Elm (t e : TypeId) (size bytes : Nat) (z : Value) : Prop where
  und : Try.prog.underlying t = some (.slice e)
  info : (Try.prog.info? e).map (fun i => (i.zero, i.size, i.bytes)) = some (some z, size, bytes)
  zs : z.cells.size = size
  pos : 0 < size
  by1 : bytes ≤ 200
theorem elI : Elm 32 3 1 8 (.int .i64 0) := ⟨Try.underlying32, by kernel_rfl, rfl, by omega, by omega⟩
theorem elA : Elm 24 23 2 32 (.agg #[.string ⟨#[]⟩, .string ⟨#[]⟩]) := ⟨Try.underlying24, by kernel_rfl, rfl, by omega, by omega⟩
theorem elB : Elm 42 5 1 1 (.int .u8 0) := ⟨Try.underlying42, by kernel_rfl, rfl, by omega, by omega⟩
theorem elS : Elm 47 9 1 16 (.string ⟨#[]⟩) := ⟨Try.underlying47, by kernel_rfl, rfl, by omega, by omega⟩
theorem elT : Elm 25 27 5 96 (.agg #[.string ⟨#[]⟩, .string ⟨#[]⟩, .string ⟨#[]⟩, .slice none 0 0, .slice none 0 0]) := ⟨Try.underlying25, by kernel_rfl, rfl, by omega, by omega⟩

theorem niC_len (l : List Int) : (niC l).length = l.length := by simp [niC]
theorem niC_one (l : List Int) : ∀ u ∈ niC l, u.oneCell' = true := by
  intro u hu
  simp only [niC, List.mem_map] at hu
  obtain ⟨x, _, rfl⟩ := hu
  rfl
theorem niC_app (l m : List Int) : niC (l ++ m) = niC l ++ niC m := by simp [niC]
theorem niC_get (l : List Int) (i : Nat) (h : i < l.length) : (niC l)[i]? = some (.int .i64 (l.getD i 0)) := by simp [niC, List.getD, h]
theorem atC_len (l : List (Tx × Tx)) : (l.flatMap atC).length = l.length * 2 := by
  induction l with
  | nil => rfl
  | cons p l ih => simp [atC] at ih ⊢; omega
theorem atC_one (l : List (Tx × Tx)) : ∀ u ∈ l.flatMap atC, u.oneCell' = true := by
  intro u hu
  simp only [List.mem_flatMap, atC] at hu
  obtain ⟨p, _, hu⟩ := hu
  simp at hu
  rcases hu with rfl | rfl <;> rfl

section
variable {t e : TypeId} {size bytes : Nat} {z : Value} {w : World}
/-- append(v, x..), as a run -/
theorem run_app (E : Elm t e size bytes z) (ty : TypeId) (B : Nat) (v : Value) (n : Nat) (xs : List Value) (hown : w.ownsRow B e size v n xs) (hB : B ≤ w.heap.size)
    (ad : Addr) (m c : Nat) (news : List Value) (hl : news.length = m * size) (hnews : ∀ j u, news[j]? = some u → w.cell? (ad.add j) = some u) (h1 : ∀ u ∈ news, u.oneCell' = true) (hn : n ≤ 100000000) (hm : m ≤ 100000000) :
    ∃ v' w', (Builtin.append_ #[t, t] ty #[v, .slice (some ad) m c]).run Try.prog w = .ok v' w' ∧ w'.ownsRow B e size v' (n + m) (xs ++ news) ∧ w.grownBy w' v.ownBlock ∧ (v'.ownBlock = v.ownBlock ∨ v'.ownBlock = some w.heap.size) := by
  obtain ⟨i0, hi, hz0, hz1, hz2⟩ := info_parts E.info
  have hb := Nat.mul_le_mul (show n + m ≤ 200000000 by omega) E.by1
  obtain ⟨v', w', hr, h2, h3, _, h5⟩ := run_append_own_at (P := Try.prog) w B t ty e i0 z size bytes E.und hi hz0 hz1 hz2 E.zs E.pos v n xs hown ad m c news hl hnews h1 (by unfold maxLen; omega) (by omega) hB
  exact ⟨v', w', hr, h2, h3, h5⟩
/-- append(nil, x..): a copy -/
theorem run_copy (E : Elm t e size bytes z) (ty : TypeId) (v : Value) (n : Nat) (xs : List Value) (hown : w.ownsRow 0 e size v n xs) (h1 : ∀ u ∈ xs, u.oneCell' = true) (hn : n ≤ 100000000) :
    ∃ v' w', (Builtin.append_ #[t, t] ty #[.slice none 0 0, v]).run Try.prog w = .ok v' w' ∧ w'.ownsRow w.heap.size e size v' n xs ∧ Below w.heap.size w w' := by
  obtain ⟨i0, hi, hz0, hz1, hz2⟩ := info_parts E.info
  rcases hown.2 with ⟨rfl, rfl⟩ | ⟨g, cap, cur, rfl, hb, hgg, rest⟩
  · have hx : xs = [] := List.eq_nil_of_length_eq_zero (by simpa using hown.1)
    subst hx
    exact ⟨_, w, run_append_owned_none (w := w) w.heap.size t ty e i0 size E.und hi (.slice none 0 0) 0 [] (World.ownsRow_nil _ _ _ _), World.ownsRow_nil _ _ _ _, Below.refl _ _⟩
  · obtain ⟨v', w', hr, h2, h3, h5⟩ := run_app E ty w.heap.size (.slice none 0 0) 0 [] (World.ownsRow_nil _ _ _ _) (Nat.le_refl _) ⟨g, 0, none⟩ n cap xs hown.1 (fun j u hu => hown.cells rfl j u hu) h1 (by omega) hn
    rw [Nat.zero_add, List.nil_append] at h2
    exact ⟨v', w', hr, h2, (Below.refl _ w).grown h3 (Nat.le_refl _) (fun k hk => by cases hk)⟩
theorem owns_zero {B n : Nat} {v : Value} {xs : List Value} (h : w.ownsRow B e size v n xs) : w.ownsRow 0 e size v n xs := by
  refine ⟨h.1, ?_⟩
  rcases h.2 with hn | ⟨g, cap, cur, rfl, hb, rest⟩
  · exact .inl hn
  · exact .inr ⟨g, cap, cur, rfl, Nat.zero_le _, rest⟩

theorem wpList_copy {ops : Array Oper} {rest : List Oper} {o : Oper} {a : Act} {Q : Exit → Act → World → Prop} (E : Elm t e size bytes z) (w : World) (hgd : o.guard = none) (s x : Operand)
    (ho : o.op = .call { callee := .builtin .append, args := #[s, x], argTypes := #[t, t] }) (v : Value) (n : Nat) (xs : List Value)
    (hs : a.eval s = .slice none 0 0) (hx : a.eval x = v) (hown : w.ownsRow 0 e size v n xs) (h1 : ∀ u ∈ xs, u.oneCell' = true) (hn : n ≤ 100000000)
    (h : ∀ v' w', w'.ownsRow w.heap.size e size v' n xs → Below w.heap.size w w' → wpList Try.prog ops Q rest (a.put o.dst v') w') : wpList Try.prog ops Q (o :: rest) a w := by
  refine wpList_plain hgd fun _ hK => ?_
  obtain ⟨v', w', hr, h2, h3⟩ := run_copy E o.type v n xs hown h1 hn
  unfold Oper.wp execOp
  simp only [ho, resolve, invoke, builtin, Sem.run_bind, Sem.run_pure, Result.andThen_ok, List.map_toArray, List.map_cons, List.map_nil, hs, hx, hr]
  exact hK _ _ (h v' w' h2 h3)
theorem wp_app {o : Oper} {a : Act} {K : Act → World → Prop} {Q : Exit → Act → World → Prop} (E : Elm t e size bytes z) (w : World) (s x : Operand)
    (ho : o.op = .call { callee := .builtin .append, args := #[s, x], argTypes := #[t, t] }) (B : Nat) (v : Value) (n : Nat) (xs : List Value)
    (hs : a.eval s = v) (hown : w.ownsRow B e size v n xs) (hB : B ≤ w.heap.size)
    (ad : Addr) (m c : Nat) (news : List Value) (hx : a.eval x = .slice (some ad) m c) (hl : news.length = m * size) (hnews : ∀ j u, news[j]? = some u → w.cell? (ad.add j) = some u) (h1 : ∀ u ∈ news, u.oneCell' = true) (hn : n ≤ 100000000) (hm : m ≤ 100000000)
    (h : ∀ v' w', w'.ownsRow B e size v' (n + m) (xs ++ news) → w.grownBy w' v.ownBlock → (v'.ownBlock = v.ownBlock ∨ v'.ownBlock = some w.heap.size) → K (a.put o.dst v') w') : o.wp Try.prog a w K Q := by
  obtain ⟨v', w', hr, h2, h3, h4⟩ := run_app E o.type B v n xs hown hB ad m c news hl hnews h1 hn hm
  unfold Oper.wp execOp
  simp only [ho, resolve, invoke, builtin, Sem.run_bind, Sem.run_pure, Result.andThen_ok, List.map_toArray, List.map_cons, List.map_nil, hs, hx, hr]
  exact h v' w' h2 h3 h4
theorem wpList_app {ops : Array Oper} {rest : List Oper} {o : Oper} {a : Act} {Q : Exit → Act → World → Prop} (E : Elm t e size bytes z) (w : World) (hgd : o.guard = none) (s x : Operand)
    (ho : o.op = .call { callee := .builtin .append, args := #[s, x], argTypes := #[t, t] }) (B : Nat) (v : Value) (n : Nat) (xs : List Value)
    (hs : a.eval s = v) (hown : w.ownsRow B e size v n xs) (hB : B ≤ w.heap.size)
    (ad : Addr) (m c : Nat) (news : List Value) (hx : a.eval x = .slice (some ad) m c) (hl : news.length = m * size) (hnews : ∀ j u, news[j]? = some u → w.cell? (ad.add j) = some u) (h1 : ∀ u ∈ news, u.oneCell' = true) (hn : n ≤ 100000000) (hm : m ≤ 100000000)
    (h : ∀ v' w', w'.ownsRow B e size v' (n + m) (xs ++ news) → w.grownBy w' v.ownBlock → (v'.ownBlock = v.ownBlock ∨ v'.ownBlock = some w.heap.size) → wpList Try.prog ops Q rest (a.put o.dst v') w') : wpList Try.prog ops Q (o :: rest) a w :=
  wpList_plain hgd fun _ hK => wp_app E w s x ho B v n xs hs hown hB ad m c news hx hl hnews h1 hn hm fun v' w' h2 h3 h4 => hK _ _ (h v' w' h2 h3 h4)
end

/-- a new row that a call answers -/
def NewR (t : TypeId) (size : Nat) (n : Nat) (xs : List Value) (w : World) (e : Ending) (w' : World) : Prop := ∃ v, e = .returned v ∧ w'.ownsRow w.heap.size t size v n xs ∧ Below w.heap.size w w'

theorem take_eq_next {α : Type} [Inhabited α] {a b : List α} {k : Nat} (h : a.take k = b.take k) (h1 : k < a.length) (h2 : k < b.length) (he : a.getD k default = b.getD k default) : a.take (k + 1) = b.take (k + 1) := by
  rw [List.take_add_one, List.take_add_one, h]
  simp only [List.getD, List.getElem?_eq_getElem h1, List.getElem?_eq_getElem h2, Option.getD_some] at he
  rw [List.getElem?_eq_getElem h1, List.getElem?_eq_getElem h2, he]
theorem ne_at {α : Type} [Inhabited α] {a b : List α} {k : Nat} (he : ¬ a.getD k default = b.getD k default) : ¬ a = b := fun h => he (by rw [h])
theorem bs_eqd (s t : ByteArray) : (s.toList == t.toList) = decide (s = t) := by
  by_cases h : s = t
  · subst h; simp
  · rw [decide_eq_false h, beq_eq_false_iff_ne]
    intro e
    rw [Lib.toList_data, Lib.toList_data] at e
    exact h (ByteArray.ext (Array.toList_inj.1 e))
theorem str_beq (s t : ByteArray) (h : s = t) : (s.toList == t.toList) = true := by rw [h]; simp
theorem str_bne (s t : ByteArray) (h : ¬ s = t) : (s.toList == t.toList) = false := by rw [bs_eqd]; exact decide_eq_false h

theorem add_lit' (b i : Nat) : (⟨b, 0, none⟩ : Addr).add i = ⟨b, 0 + i, none⟩ := by rw [Addr.add_lit]

abbrev Pr := Tx × Tx
theorem pr_beq (s t : Pr) (h : s = t) : (s.1.toList == t.1.toList) = true ∧ (s.2.toList == t.2.toList) = true := by rw [h]; simp
theorem pr_bne (s t : Pr) (h : ¬ s = t) : (s.1.toList == t.1.toList) = false ∨ ((s.1.toList == t.1.toList) = true ∧ (s.2.toList == t.2.toList) = false) := by
  by_cases h1 : s.1 = t.1
  · exact Or.inr ⟨str_beq _ _ h1, str_bne _ _ (fun h2 => h (Prod.ext h1 h2))⟩
  · exact Or.inl (str_bne _ _ h1)
/-- pairs as they are read -/
def Ps (w : World) (v : Value) (l : List Pr) : Prop :=
  ∃ A cap, v = .slice A l.length cap ∧ l.length ≤ cap ∧ (A = none → cap = 0) ∧ ∀ i, i < l.length → ∃ b o, A = some ⟨b, o, none⟩ ∧ w.cell? ⟨b, o + i * 2, none⟩ = some (.string (l.getD i default).1) ∧ w.cell? ⟨b, o + i * 2 + 1, none⟩ = some (.string (l.getD i default).2)
theorem Ps.call {w w' : World} {v : Value} {l : List Pr} (h : Ps w v l) (hb : Below w.heap.size w w') : Ps w' v l := by
  obtain ⟨A, cap, h1, h2, h3, h4⟩ := h
  refine ⟨A, cap, h1, h2, h3, fun i hi => ?_⟩
  obtain ⟨b, o, ha, hc, hd⟩ := h4 i hi
  exact ⟨b, o, ha, by rw [hb.cell (World.block_lt_of_cell? w _ hc)]; exact hc, by rw [hb.cell (World.block_lt_of_cell? w _ hd)]; exact hd⟩
theorem atC_at (l : List Pr) (i : Nat) (h : i < l.length) : (l.flatMap atC)[i * 2]? = some (.string (l.getD i default).1) ∧ (l.flatMap atC)[i * 2 + 1]? = some (.string (l.getD i default).2) := by
  induction l generalizing i with
  | nil => simp at h
  | cons p l ih =>
    cases i with
    | zero => simp [atC]
    | succ i =>
      have := ih i (by simpa using h)
      have e : (p :: l).flatMap atC = atC p ++ l.flatMap atC := rfl
      rw [e]
      constructor
      · rw [List.getElem?_append_right (by simp [atC]; omega)]
        have e2 : (i + 1) * 2 - (atC p).length = i * 2 := by simp [atC]; omega
        rw [e2]; simpa using this.1
      · rw [List.getElem?_append_right (by simp [atC]; omega)]
        have e2 : (i + 1) * 2 + 1 - (atC p).length = i * 2 + 1 := by simp [atC]; omega
        rw [e2]; simpa using this.2
theorem owns_ps {w : World} {B : Nat} {v : Value} {l : List Pr} (h : w.ownsRow B 23 2 v l.length (l.flatMap atC)) : Ps w v l := by
  have hc := @World.ownsRow.cells _ _ _ _ _ _ _ h
  rcases h.2 with ⟨rfl, h1⟩ | ⟨g, cap, cur, rfl, _, _, h4, _⟩
  · obtain rfl : l = [] := List.eq_nil_of_length_eq_zero h1
    exact ⟨none, 0, rfl, by simp, fun _ => rfl, fun i hi => by simp at hi⟩
  · refine ⟨some ⟨g, 0, none⟩, cap, rfl, h4, (fun h => by cases h), fun i hi => ⟨g, 0, rfl, ?_, ?_⟩⟩
    · have := hc rfl (i * 2) _ (atC_at l i hi).1
      rw [add_lit'] at this
      exact this
    · have := hc rfl (i * 2 + 1) _ (atC_at l i hi).2
      rw [add_lit', ← Nat.add_assoc] at this
      exact this
/-- numbers as they are read -/
def Ni (w : World) (v : Value) (l : List Int) : Prop :=
  ∃ A cap, v = .slice A l.length cap ∧ l.length ≤ cap ∧ (A = none → cap = 0) ∧ ∀ i, i < l.length → ∃ b o, A = some ⟨b, o, none⟩ ∧ w.cell? ⟨b, o + i, none⟩ = some (.int .i64 (l.getD i 0))
theorem Ni.call {w w' : World} {v : Value} {l : List Int} (h : Ni w v l) (hb : Below w.heap.size w w') : Ni w' v l := by
  obtain ⟨A, cap, h1, h2, h3, h4⟩ := h
  refine ⟨A, cap, h1, h2, h3, fun i hi => ?_⟩
  obtain ⟨b, o, ha, hc⟩ := h4 i hi
  exact ⟨b, o, ha, by rw [hb.cell (World.block_lt_of_cell? w _ hc)]; exact hc⟩
theorem owns_ni {w : World} {B : Nat} {v : Value} {l : List Int} (h : w.ownsRow B 3 1 v l.length (niC l)) : Ni w v l := by
  have hc := @World.ownsRow.cells _ _ _ _ _ _ _ h
  rcases h.2 with ⟨rfl, h1⟩ | ⟨g, cap, cur, rfl, _, _, h4, _⟩
  · obtain rfl : l = [] := List.eq_nil_of_length_eq_zero h1
    exact ⟨none, 0, rfl, by simp, fun _ => rfl, fun i hi => by simp at hi⟩
  · refine ⟨some ⟨g, 0, none⟩, cap, rfl, h4, (fun h => by cases h), fun i hi => ⟨g, 0, rfl, ?_⟩⟩
    have := hc rfl i _ (niC_get l i hi)
    rw [add_lit'] at this
    exact this
theorem drN {w w' : World} (h : ∃ q, w' = w.drewN q) (k : Nat) : ∃ q, w'.drewN k = w.drewN q := by
  obtain ⟨q, rfl⟩ := h
  exact ⟨q + k, by simp [World.drewN, Nat.add_assoc]⟩
theorem drC {w w' : World} (h : ∃ q, w' = w.drewN q) (a : Addr) : w'.cell? a = w.cell? a := by obtain ⟨q, rfl⟩ := h; rfl

end Go.Proofs.Ytolklphenllhpaa
