/-
  Slices of segments, as those of pairs; small facts on lists and blocks.
-/
import Derived.Test.YtnnmbpghkflepaaGreatDoorRowsOf
import Derived.Test.YtnnmbpghkflepaaGreatDoorKp
import Derived.Deep.RegionHeld3
import Derived.Deep.RegionLaw
import Derived.Laws.ResultCell
namespace Go.Proofs.YtnnmbpghkflepaaGreatDoor
open Go.RowKit Go.PlainAid
set_option maxRecDepth 100000

theorem size_st0 : (⟨#[]⟩ : ByteArray).size = 0 := rfl
theorem getD_mem {α : Type} [Inhabited α] (l : List α) (k : Nat) (h : k < l.length) : l.getD k default ∈ l := by
  simp [List.getD, h]
theorem take_next {α β : Type} [Inhabited α] (f : α → β) (l : List α) (k : Nat) (h : k < l.length) : (l.take (k + 1)).map f = (l.take k).map f ++ [f (l.getD k default)] := by
  have e : l.take (k + 1) = l.take k ++ [l.getD k default] := by
    rw [List.take_add_one]
    simp only [List.getD, List.getElem?_eq_getElem h, Option.toList_some, Option.getD_some]
  rw [e, List.map_append]
  rfl
theorem all_next {α : Type} [Inhabited α] (f : α → Bool) (l : List α) (k : Nat) (h : k < l.length) : (l.take (k + 1)).all f = ((l.take k).all f && f (l.getD k default)) := by
  have e : l.take (k + 1) = l.take k ++ [l.getD k default] := by
    rw [List.take_add_one]
    simp only [List.getD, List.getElem?_eq_getElem h, Option.toList_some, Option.getD_some]
  rw [e, List.all_append]
  simp
theorem all_not {α : Type} [Inhabited α] (f : α → Bool) (l : List α) (k : Nat) (h : k < l.length) (hf : f (l.getD k default) = false) : l.all f = false := by
  rw [List.all_eq_false]
  exact ⟨_, getD_mem l k h, by rw [hf]; decide⟩

theorem Ss.shape {w : World} {v : Value} {l : List ByteArray} (h : Ss w v l) : ∃ A n c, v = .slice A n c := by
  obtain ⟨A, cap, e, _⟩ := h
  exact ⟨_, _, _, e⟩
theorem Ps.shape {w : World} {v : Value} {l : List Pr} (h : Ps w v l) : ∃ A n c, v = .slice A n c := by
  obtain ⟨A, cap, e, _⟩ := h
  exact ⟨_, _, _, e⟩

/-- a new block of texts -/
theorem ss_new {w : World} {b : Nat} {l : List ByteArray} {n : Nat} (h : w.heap[b]? = some (.cells (l.map Value.string).toArray 9 (0, 0))) (hn : l.length = n) : Ss w (.slice (some ⟨b, 0, none⟩) n n) l := by
  subst hn
  refine ⟨_, _, rfl, Nat.le_refl _, (fun h => by cases h), fun i hi => ⟨b, 0, rfl, ?_⟩⟩
  rw [blk_cell h]
  simp [List.getD, hi]
theorem ps_new {w : World} {b : Nat} {l : List Pr} {n : Nat} (h : w.heap[b]? = some (.cells (l.flatMap prC).toArray 40 (0, 0))) (hn : l.length = n) : Ps w (.slice (some ⟨b, 0, none⟩) n n) l := by
  subst hn
  refine ⟨_, _, rfl, Nat.le_refl _, (fun h => by cases h), fun i hi => ⟨b, 0, rfl, ?_, ?_⟩⟩
  · rw [blk_cell h]
    have := (prC_at l i hi).1
    simpa using this
  · rw [blk_cell h]
    have := (prC_at l i hi).2
    simpa using this

theorem blk_new1 (w : World) (x y : Obj) : ((w.alloc x).alloc y).heap[w.heap.size + 1]? = some y := by
  have := blk_new (w.alloc x) y
  simpa using this


abbrev Sg := Int × ByteArray
def sgC (p : Sg) : List Value := [.int .i64 p.1, .string p.2]
theorem info49 : (Tryz.prog.info? 49).map (fun i => (i.zero, i.size, i.bytes)) = some (some (.agg #[.int .i64 0, .string ⟨#[]⟩]), 2, 24) := by kernel_rfl
theorem sgC_len (l : List Sg) : (l.flatMap sgC).length = l.length * 2 := by
  induction l with
  | nil => rfl
  | cons p l ih => simp [sgC] at ih ⊢; omega
theorem sgC_one (l : List Sg) : ∀ u ∈ l.flatMap sgC, u.oneCell' = true := by
  intro u hu
  simp only [List.mem_flatMap, sgC] at hu
  obtain ⟨p, _, hu⟩ := hu
  simp at hu
  rcases hu with rfl | rfl <;> rfl
theorem sgC_at (l : List Sg) (i : Nat) (h : i < l.length) : (l.flatMap sgC)[i * 2]? = some (.int .i64 (l.getD i default).1) ∧ (l.flatMap sgC)[i * 2 + 1]? = some (.string (l.getD i default).2) := by
  induction l generalizing i with
  | nil => simp at h
  | cons p l ih =>
    cases i with
    | zero => simp [sgC]
    | succ i =>
      have := ih i (by simpa using h)
      have e : (p :: l).flatMap sgC = sgC p ++ l.flatMap sgC := rfl
      rw [e]
      constructor
      · rw [List.getElem?_append_right (by simp [sgC]; omega)]
        have e2 : (i + 1) * 2 - (sgC p).length = i * 2 := by simp [sgC]; omega
        rw [e2]; simpa using this.1
      · rw [List.getElem?_append_right (by simp [sgC]; omega)]
        have e2 : (i + 1) * 2 + 1 - (sgC p).length = i * 2 + 1 := by simp [sgC]; omega
        rw [e2]; simpa using this.2

def OwnG (B : Nat) (w0 : World) (v : Value) (xs : List Sg) (w : World) : Prop :=
  w.ownsRow B 49 2 v xs.length (xs.flatMap sgC) ∧ Below B w0 w ∧ B ≤ w.heap.size

section
variable {B : Nat} {w0 : World} {v : Value} {w : World}
theorem OwnG.alloc {xs : List Sg} (h : OwnG B w0 v xs w) (o : Obj) : OwnG B w0 v xs (w.alloc o) :=
  ⟨h.1.alloc o, h.2.1.alloc h.2.2 o, by have := h.2.2; simp; omega⟩
theorem OwnG.drew {xs : List Sg} (h : OwnG B w0 v xs w) : OwnG B w0 v xs w.drew := ⟨h.1.drew, h.2.1.drew, h.2.2⟩
theorem OwnG.call {xs : List Sg} {w' : World} (h : OwnG B w0 v xs w) (hb : Below w.heap.size w w') : OwnG B w0 v xs w' :=
  ⟨owns_call h.1 hb, h.2.1.trans (hb.mono h.2.2), by have := hb.size; have := h.2.2; omega⟩
end
theorem empG (B : Nat) (w0 w : World) (hb : Below B w0 w) (hB : B ≤ w.heap.size) : OwnG B w0 (.slice (some ⟨w.heap.size, 0, none⟩) 0 0) [] (w.alloc (.cells #[] 49 (0, 0))) :=
  ⟨World.ownsRow_made w #[] 0 hB (by unfold maxLen; omega) (by simp), hb.alloc hB _, by simp; omega⟩
theorem nilG (B : Nat) (w0 w : World) (hb : Below B w0 w) (hB : B ≤ w.heap.size) : OwnG B w0 (.slice none 0 0) [] w := ⟨World.ownsRow_nil _ _ _ _, hb, hB⟩

theorem wp_appG {o : Oper} {a : Act} {K : Act → World → Prop} {Q : Exit → Act → World → Prop} (w : World) (s x : Operand)
    (ho : o.op = .call { callee := .builtin .append, args := #[s, x], argTypes := #[50, 50] })
    (B : Nat) (w0 : World) (v : Value) (xs : List Sg) (hs : a.eval s = v) (hown : OwnG B w0 v xs w) (hn : xs.length ≤ 1000000000)
    (ad : Addr) (m c : Nat) (ys : List Sg) (hx : a.eval x = .slice (some ad) m c) (hm : ys.length = m) (hm1 : m ≤ 10) (hb : ∀ j u, (ys.flatMap sgC)[j]? = some u → w.cell? (ad.add j) = some u)
    (h : ∀ v' w', OwnG B w0 v' (xs ++ ys) w' → w.grownBy w' v.ownBlock → v'.ownBlock = v.ownBlock ∨ v'.ownBlock = some w.heap.size → K (a.put o.dst v') w') : o.wp Tryz.prog a w K Q := by
  obtain ⟨i0, hi, hz0, hz1, hz2⟩ := info_parts info49
  have hr := run_append_own_at (P := Tryz.prog) w B 50 o.type 49 i0 (.agg #[.int .i64 0, .string ⟨#[]⟩]) 2 24 Tryz.underlying50 hi hz0 hz1 hz2 rfl (by omega) v xs.length _ hown.1 ad m c (ys.flatMap sgC) (by rw [sgC_len, hm]) hb (sgC_one ys) (by unfold maxLen; omega) (by omega) hown.2.2
  obtain ⟨v', w', hr, h2, h3, _, h5⟩ := hr
  unfold Oper.wp execOp
  simp only [ho, resolve, invoke, builtin, Sem.run_bind, Sem.run_pure, Result.andThen_ok, List.map_toArray, List.map_cons, List.map_nil, hs, hx, hr]
  refine h v' w' ⟨?_, hown.2.1.grown h3 hown.2.2 (fun k hk => (hown.1.lt k hk).1), by have := h3.size; have := hown.2.2; omega⟩ h3 h5
  rw [List.length_append, List.flatMap_append, hm]
  exact h2
theorem wpList_appG {ops : Array Oper} {rest : List Oper} {o : Oper} {a : Act} {Q : Exit → Act → World → Prop} (w : World) (hgd : o.guard = none) (s x : Operand)
    (ho : o.op = .call { callee := .builtin .append, args := #[s, x], argTypes := #[50, 50] })
    (B : Nat) (w0 : World) (v : Value) (xs : List Sg) (hs : a.eval s = v) (hown : OwnG B w0 v xs w) (hn : xs.length ≤ 1000000000)
    (b m c : Nat) (ys : List Sg) (hx : a.eval x = .slice (some ⟨b, 0, none⟩) m c) (hm : ys.length = m) (hm1 : m ≤ 10) (hb : w.heap[b]? = some (.cells (ys.flatMap sgC).toArray 49 (0, 0)))
    (h : ∀ v' w', OwnG B w0 v' (xs ++ ys) w' → w.grownBy w' v.ownBlock → v'.ownBlock = v.ownBlock ∨ v'.ownBlock = some w.heap.size → wpList Tryz.prog ops Q rest (a.put o.dst v') w') : wpList Tryz.prog ops Q (o :: rest) a w :=
  wpList_plain hgd fun _ hK => wp_appG w s x ho B w0 v xs hs hown hn ⟨b, 0, none⟩ m c ys hx hm hm1 (World.news_of_block hb) fun v' w' h2 h3 h4 => hK _ _ (h v' w' h2 h3 h4)

theorem wpList_mkG {ops : Array Oper} {rest : List Oper} {o : Oper} {a : Act} {Q : Exit → Act → World → Prop} (w : World) (hg : o.guard = none) (l c : Operand) (hop : o.op = Op.makeSlice 50 l c)
    (B : Nat) (w0 : World) (hb : Below B w0 w) (hB : B ≤ w.heap.size)
    (C : Int) (n : Nat) (hl : a.eval l = .int .i64 0) (hc : a.eval c = .int .i64 C) (hC : C = (n : Int)) (hn : n ≤ 1000000000)
    (hK : ∀ v w', OwnG B w0 v [] w' → Below w.heap.size w w' → wpList Tryz.prog ops Q rest (a.put o.dst v) w') : wpList Tryz.prog ops Q (o :: rest) a w := by
  obtain ⟨i0, hi, hz0, hz1, hz2⟩ := info_parts info49
  refine wpList_make_own w hg l c 50 hop B 49 i0 (.agg #[.int .i64 0, .string ⟨#[]⟩]) 2 Tryz.underlying50 hi hz0 hz1 .i64 .i64 C n hl hc hC (by rw [hz2]; omega) (by unfold maxLen; omega) hB ?_
  intro w' h1 h2
  exact hK _ w' ⟨h1, hb.grown h2 hB (fun k hk => by cases hk), by have := h2.size; omega⟩ ((Below.refl _ w).grown h2 (Nat.le_refl _) (fun k hk => by cases hk))

def Gs (w : World) (v : Value) (l : List Sg) : Prop :=
  ∃ A cap, v = .slice A l.length cap ∧ l.length ≤ cap ∧ (A = none → cap = 0) ∧ ∀ i, i < l.length → ∃ b o, A = some ⟨b, o, none⟩ ∧ w.cell? ⟨b, o + i * 2, none⟩ = some (.int .i64 (l.getD i default).1) ∧ w.cell? ⟨b, o + i * 2 + 1, none⟩ = some (.string (l.getD i default).2)
theorem Gs.call {w w' : World} {v : Value} {l : List Sg} (h : Gs w v l) (hb : Below w.heap.size w w') : Gs w' v l := by
  obtain ⟨A, cap, h1, h2, h3, h4⟩ := h
  refine ⟨A, cap, h1, h2, h3, fun i hi => ?_⟩
  obtain ⟨b, o, ha, hc, hd⟩ := h4 i hi
  exact ⟨b, o, ha, by rw [hb.cell (World.block_lt_of_cell? w _ hc)]; exact hc, by rw [hb.cell (World.block_lt_of_cell? w _ hd)]; exact hd⟩
theorem OwnG.gs {B : Nat} {w0 : World} {v : Value} {xs : List Sg} {w : World} (h : OwnG B w0 v xs w) : Gs w v xs := by
  have hc := @World.ownsRow.cells _ _ _ _ _ _ _ h.1
  obtain ⟨hl, ⟨rfl, h1⟩ | ⟨g, cap, cur, rfl, _, _, h4, _⟩⟩ := h.1
  · obtain rfl : xs = [] := List.eq_nil_of_length_eq_zero h1
    exact ⟨none, 0, rfl, by simp, fun _ => rfl, fun i hi => by simp at hi⟩
  · refine ⟨some ⟨g, 0, none⟩, cap, rfl, h4, (fun h => by cases h), fun i hi => ⟨g, 0, rfl, ?_, ?_⟩⟩
    · have := hc rfl (i * 2) _ (sgC_at xs i hi).1
      rw [add_lit'] at this
      exact this
    · have := hc rfl (i * 2 + 1) _ (sgC_at xs i hi).2
      rw [add_lit', ← Nat.add_assoc] at this
      exact this
theorem gs_nil (w : World) : Gs w (.slice none 0 0) [] := ⟨none, 0, rfl, by simp, fun _ => rfl, fun i hi => by simp at hi⟩
theorem Gs.shape {w : World} {v : Value} {l : List Sg} (h : Gs w v l) : ∃ A n c, v = .slice A n c := by
  obtain ⟨A, cap, e, _⟩ := h
  exact ⟨_, _, _, e⟩

theorem gs_new {w : World} {b : Nat} {l : List Sg} {n : Nat} (h : w.heap[b]? = some (.cells (l.flatMap sgC).toArray 49 (0, 0))) (hn : l.length = n) : Gs w (.slice (some ⟨b, 0, none⟩) n n) l := by
  subst hn
  refine ⟨_, _, rfl, Nat.le_refl _, (fun h => by cases h), fun i hi => ⟨b, 0, rfl, ?_, ?_⟩⟩
  · rw [blk_cell h]
    have := (sgC_at l i hi).1
    simpa using this
  · rw [blk_cell h]
    have := (sgC_at l i hi).2
    simpa using this

end Go.Proofs.YtnnmbpghkflepaaGreatDoor
