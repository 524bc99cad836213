/-
  Entries (a text and a word) in memory: such as are read (Es), such as the call makes (OwnE).
-/
import Derived.Test.YtbkhlmnonjkelaaKp
import Derived.Test.YtbkhlmnonjkelaaRows
import Derived.PlainAid
import Derived.OwnWalk
import Derived.Deep.AppendLies
import Derived.Deep.RegionHeld3
import Derived.Deep.RegionLaw
import Derived.Laws.ResultCell
import Derived.Deep.QuietTactic
import Derived.BigQuiet
namespace Go.Proofs.Ytbkhlmnonjkelaa
open Go.RowKit Go.PlainAid
set_option maxRecDepth 100000

section
variable {B : Nat} {w0 : World} {v : Value} {w : World}
/-- through a call that leaves all that is there -/
theorem owns_call {e : TypeId} {size n : Nat} {cs : List Value} {w' : World} (h : w.ownsRow B e size v n cs) (hb : Below w.heap.size w w') : w'.ownsRow B e size v n cs :=
  h.kept (row := none) ⟨hb.os, hb.tape, hb.output, hb.size, fun k hk _ => hb.block k hk⟩ (by cases hv : v.ownBlock <;> simp)
/-- a cell of below B (or of another block) set -/
theorem owns_set {e : TypeId} {size n : Nat} {cs : List Value} (h : w.ownsRow B e size v n cs) (p : Addr) (hp : v.ownBlock ≠ some p.block) (u : Value) : (w.setCell p u).ownsRow B e size v n cs := by
  refine ⟨h.1, ?_⟩
  rcases h.2 with hn | ⟨g, cap, cur, rfl, hb, hgg, rest⟩
  · exact .inl hn
  · refine .inr ⟨g, cap, cur, rfl, hb, ?_, rest⟩
    rw [Below.heap_setCell _ _ _ _ (by intro h; apply hp; simp [Value.ownBlock, h])]
    exact hgg
end

theorem add_lit' (b i : Nat) : (⟨b, 0, none⟩ : Addr).add i = ⟨b, 0 + i, none⟩ := by rw [Addr.add_lit]
theorem getD_mem {α : Type} [Inhabited α] (l : List α) (k : Nat) (h : k < l.length) : l.getD k default ∈ l := by
  simp [List.getD, h]
theorem take_next {α β : Type} [Inhabited α] (f : α → β) (l : List α) (k : Nat) (h : k < l.length) : (l.take (k + 1)).map f = (l.take k).map f ++ [f (l.getD k default)] := by
  have e : l.take (k + 1) = l.take k ++ [l.getD k default] := by
    rw [List.take_add_one]
    simp only [List.getD, List.getElem?_eq_getElem h, Option.toList_some, Option.getD_some]
  rw [e, List.map_append]
  rfl
theorem all_next {α : Type} [Inhabited α] (f : α → Bool) (l : List α) (k : Nat) (h : k < l.length) : (l.take (k + 1)).all f = ((l.take k).all f && f (l.getD k default)) := by
  have e : l.take (k + 1) = l.take k ++ [l.getD k default] := by
    rw [List.take_add_one]
    simp only [List.getD, List.getElem?_eq_getElem h, Option.toList_some, Option.getD_some]
  rw [e, List.all_append]
  simp
theorem all_not {α : Type} [Inhabited α] (f : α → Bool) (l : List α) (k : Nat) (h : k < l.length) (hf : f (l.getD k default) = false) : l.all f = false := by
  rw [List.all_eq_false]
  exact ⟨_, getD_mem l k h, by rw [hf]; decide⟩

abbrev En := ByteArray × Int
def enC (p : En) : List Value := [.string p.1, .int .u64 p.2]
theorem info28 : (Try.prog.info? 28).map (fun i => (i.zero, i.size, i.bytes)) = some (some (.agg #[.string ⟨#[]⟩, .int .u64 0]), 2, 24) := by kernel_rfl
theorem enC_len (l : List En) : (l.flatMap enC).length = l.length * 2 := by
  induction l with
  | nil => rfl
  | cons p l ih => simp [enC] at ih ⊢; omega
theorem enC_one (l : List En) : ∀ u ∈ l.flatMap enC, u.oneCell' = true := by
  intro u hu
  simp only [List.mem_flatMap, enC] at hu
  obtain ⟨p, _, hu⟩ := hu
  simp at hu
  rcases hu with rfl | rfl <;> rfl
theorem enC_at (l : List En) (i : Nat) (h : i < l.length) : (l.flatMap enC)[i * 2]? = some (.string (l.getD i default).1) ∧ (l.flatMap enC)[i * 2 + 1]? = some (.int .u64 (l.getD i default).2) := by
  induction l generalizing i with
  | nil => simp at h
  | cons p l ih =>
    cases i with
    | zero => simp [enC]
    | succ i =>
      have := ih i (by simpa using h)
      have e : (p :: l).flatMap enC = enC p ++ l.flatMap enC := rfl
      rw [e]
      constructor
      · rw [List.getElem?_append_right (by simp [enC]; omega)]
        have e2 : (i + 1) * 2 - (enC p).length = i * 2 := by simp [enC]; omega
        rw [e2]; simpa using this.1
      · rw [List.getElem?_append_right (by simp [enC]; omega)]
        have e2 : (i + 1) * 2 + 1 - (enC p).length = i * 2 + 1 := by simp [enC]; omega
        rw [e2]; simpa using this.2

def OwnE (B : Nat) (w0 : World) (v : Value) (xs : List En) (w : World) : Prop :=
  w.ownsRow B 28 2 v xs.length (xs.flatMap enC) ∧ Below B w0 w ∧ B ≤ w.heap.size

section
variable {B : Nat} {w0 : World} {v : Value} {w : World}
theorem OwnE.alloc {xs : List En} (h : OwnE B w0 v xs w) (o : Obj) : OwnE B w0 v xs (w.alloc o) :=
  ⟨h.1.alloc o, h.2.1.alloc h.2.2 o, by have := h.2.2; simp; omega⟩
theorem OwnE.drew {xs : List En} (h : OwnE B w0 v xs w) : OwnE B w0 v xs w.drew := ⟨h.1.drew, h.2.1.drew, h.2.2⟩
theorem OwnE.call {xs : List En} {w' : World} (h : OwnE B w0 v xs w) (hb : Below w.heap.size w w') : OwnE B w0 v xs w' :=
  ⟨owns_call h.1 hb, h.2.1.trans (hb.mono h.2.2), by have := hb.size; have := h.2.2; omega⟩
end
theorem empE (B : Nat) (w0 w : World) (hb : Below B w0 w) (hB : B ≤ w.heap.size) : OwnE B w0 (.slice (some ⟨w.heap.size, 0, none⟩) 0 0) [] (w.alloc (.cells #[] 28 (0, 0))) :=
  ⟨World.ownsRow_made w #[] 0 hB (by unfold maxLen; omega) (by simp), hb.alloc hB _, by simp; omega⟩
theorem nilE (B : Nat) (w0 w : World) (hb : Below B w0 w) (hB : B ≤ w.heap.size) : OwnE B w0 (.slice none 0 0) [] w := ⟨World.ownsRow_nil _ _ _ _, hb, hB⟩

theorem wp_appE {o : Oper} {a : Act} {K : Act → World → Prop} {Q : Exit → Act → World → Prop} (w : World) (s x : Operand)
    (ho : o.op = .call { callee := .builtin .append, args := #[s, x], argTypes := #[32, 32] })
    (B : Nat) (w0 : World) (v : Value) (xs : List En) (hs : a.eval s = v) (hown : OwnE B w0 v xs w) (hn : xs.length ≤ 1000000000)
    (ad : Addr) (m c : Nat) (ys : List En) (hx : a.eval x = .slice (some ad) m c) (hm : ys.length = m) (hm1 : m ≤ 100000) (hb : ∀ j u, (ys.flatMap enC)[j]? = some u → w.cell? (ad.add j) = some u)
    (h : ∀ v' w', OwnE B w0 v' (xs ++ ys) w' → w.grownBy w' v.ownBlock → v'.ownBlock = v.ownBlock ∨ v'.ownBlock = some w.heap.size → K (a.put o.dst v') w') : o.wp Try.prog a w K Q := by
  obtain ⟨i0, hi, hz0, hz1, hz2⟩ := info_parts info28
  have hr := run_append_own_at (P := Try.prog) w B 32 o.type 28 i0 (.agg #[.string ⟨#[]⟩, .int .u64 0]) 2 24 Try.underlying32 hi hz0 hz1 hz2 rfl (by omega) v xs.length _ hown.1 ad m c (ys.flatMap enC) (by rw [enC_len, hm]) hb (enC_one ys) (by unfold maxLen; omega) (by omega) hown.2.2
  obtain ⟨v', w', hr, h2, h3, _, h5⟩ := hr
  unfold Oper.wp execOp
  simp only [ho, resolve, invoke, builtin, Sem.run_bind, Sem.run_pure, Result.andThen_ok, List.map_toArray, List.map_cons, List.map_nil, hs, hx, hr]
  refine h v' w' ⟨?_, hown.2.1.grown h3 hown.2.2 (fun k hk => (hown.1.lt k hk).1), by have := h3.size; have := hown.2.2; omega⟩ h3 h5
  rw [List.length_append, List.flatMap_append, hm]
  exact h2
theorem wpList_appE {ops : Array Oper} {rest : List Oper} {o : Oper} {a : Act} {Q : Exit → Act → World → Prop} (w : World) (hgd : o.guard = none) (s x : Operand)
    (ho : o.op = .call { callee := .builtin .append, args := #[s, x], argTypes := #[32, 32] })
    (B : Nat) (w0 : World) (v : Value) (xs : List En) (hs : a.eval s = v) (hown : OwnE B w0 v xs w) (hn : xs.length ≤ 1000000000)
    (b m c : Nat) (ys : List En) (hx : a.eval x = .slice (some ⟨b, 0, none⟩) m c) (hm : ys.length = m) (hm1 : m ≤ 100000) (hb : w.heap[b]? = some (.cells (ys.flatMap enC).toArray 28 (0, 0)))
    (h : ∀ v' w', OwnE B w0 v' (xs ++ ys) w' → w.grownBy w' v.ownBlock → v'.ownBlock = v.ownBlock ∨ v'.ownBlock = some w.heap.size → wpList Try.prog ops Q rest (a.put o.dst v') w') : wpList Try.prog ops Q (o :: rest) a w :=
  wpList_plain hgd fun _ hK => wp_appE w s x ho B w0 v xs hs hown hn ⟨b, 0, none⟩ m c ys hx hm hm1 (World.news_of_block hb) fun v' w' h2 h3 h4 => hK _ _ (h v' w' h2 h3 h4)

theorem wpList_mkE {ops : Array Oper} {rest : List Oper} {o : Oper} {a : Act} {Q : Exit → Act → World → Prop} (w : World) (hg : o.guard = none) (l c : Operand) (hop : o.op = Op.makeSlice 32 l c)
    (B : Nat) (w0 : World) (hb : Below B w0 w) (hB : B ≤ w.heap.size)
    (C : Int) (n : Nat) (hl : a.eval l = .int .i64 0) (hc : a.eval c = .int .i64 C) (hC : C = (n : Int)) (hn : n ≤ 1000000000)
    (hK : ∀ v w', OwnE B w0 v [] w' → Below w.heap.size w w' → wpList Try.prog ops Q rest (a.put o.dst v) w') : wpList Try.prog ops Q (o :: rest) a w := by
  obtain ⟨i0, hi, hz0, hz1, hz2⟩ := info_parts info28
  refine wpList_make_own w hg l c 32 hop B 28 i0 (.agg #[.string ⟨#[]⟩, .int .u64 0]) 2 Try.underlying32 hi hz0 hz1 .i64 .i64 C n hl hc hC (by rw [hz2]; omega) (by unfold maxLen; omega) hB ?_
  intro w' h1 h2
  exact hK _ w' ⟨h1, hb.grown h2 hB (fun k hk => by cases hk), by have := h2.size; omega⟩ ((Below.refl _ w).grown h2 (Nat.le_refl _) (fun k hk => by cases hk))

def Es (w : World) (v : Value) (l : List En) : Prop :=
  ∃ A cap, v = .slice A l.length cap ∧ l.length ≤ cap ∧ (A = none → cap = 0) ∧ ∀ i, i < l.length → ∃ b o, A = some ⟨b, o, none⟩ ∧ w.cell? ⟨b, o + i * 2, none⟩ = some (.string (l.getD i default).1) ∧ w.cell? ⟨b, o + i * 2 + 1, none⟩ = some (.int .u64 (l.getD i default).2)
theorem Es.call {w w' : World} {v : Value} {l : List En} (h : Es w v l) (hb : Below w.heap.size w w') : Es w' v l := by
  obtain ⟨A, cap, h1, h2, h3, h4⟩ := h
  refine ⟨A, cap, h1, h2, h3, fun i hi => ?_⟩
  obtain ⟨b, o, ha, hc, hd⟩ := h4 i hi
  exact ⟨b, o, ha, by rw [hb.cell (World.block_lt_of_cell? w _ hc)]; exact hc, by rw [hb.cell (World.block_lt_of_cell? w _ hd)]; exact hd⟩
theorem OwnE.es {B : Nat} {w0 : World} {v : Value} {xs : List En} {w : World} (h : OwnE B w0 v xs w) : Es w v xs := by
  have hc := @World.ownsRow.cells _ _ _ _ _ _ _ h.1
  obtain ⟨hl, ⟨rfl, h1⟩ | ⟨g, cap, cur, rfl, _, _, h4, _⟩⟩ := h.1
  · obtain rfl : xs = [] := List.eq_nil_of_length_eq_zero h1
    exact ⟨none, 0, rfl, by simp, fun _ => rfl, fun i hi => by simp at hi⟩
  · refine ⟨some ⟨g, 0, none⟩, cap, rfl, h4, (fun h => by cases h), fun i hi => ⟨g, 0, rfl, ?_, ?_⟩⟩
    · have := hc rfl (i * 2) _ (enC_at xs i hi).1
      rw [add_lit'] at this
      exact this
    · have := hc rfl (i * 2 + 1) _ (enC_at xs i hi).2
      rw [add_lit', ← Nat.add_assoc] at this
      exact this
theorem es_nil (w : World) : Es w (.slice none 0 0) [] := ⟨none, 0, rfl, by simp, fun _ => rfl, fun i hi => by simp at hi⟩
theorem Es.shape {w : World} {v : Value} {l : List En} (h : Es w v l) : ∃ A n c, v = .slice A n c := by
  obtain ⟨A, cap, e, _⟩ := h
  exact ⟨_, _, _, e⟩

theorem es_new {w : World} {b : Nat} {l : List En} {n : Nat} (h : w.heap[b]? = some (.cells (l.flatMap enC).toArray 28 (0, 0))) (hn : l.length = n) : Es w (.slice (some ⟨b, 0, none⟩) n n) l := by
  subst hn
  refine ⟨_, _, rfl, Nat.le_refl _, (fun h => by cases h), fun i hi => ⟨b, 0, rfl, ?_, ?_⟩⟩
  · rw [blk_cell h]
    have := (enC_at l i hi).1
    simpa using this
  · rw [blk_cell h]
    have := (enC_at l i hi).2
    simpa using this

end Go.Proofs.Ytbkhlmnonjkelaa
