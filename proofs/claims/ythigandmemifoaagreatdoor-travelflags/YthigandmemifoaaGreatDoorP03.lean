/-
  Put together: RowsOf, Kp.
-/
import Derived.Test.YthigandmemifoaaGreatDoorP02
import Derived.Lib.AppendStr
import Derived.Below
import Derived.WalkKit
namespace Go.Proofs.YthigandmemifoaaGreatDoor
open Go.RowKit Go.PlainAid
set_option maxRecDepth 100000

theorem info9 : (Tryz.prog.info? 9).map (fun i => (i.zero, i.size, i.bytes)) = some (some (.string ⟨#[]⟩), 1, 16) := by kernel_rfl
theorem info61 : (Tryz.prog.info? 61).map (fun i => (i.zero, i.size, i.bytes)) = some (some (.agg #[.string ⟨#[]⟩, .string ⟨#[]⟩]), 2, 32) := by kernel_rfl

abbrev Pr := ByteArray × ByteArray
/-- a pair's cells -/
def prC (p : Pr) : List Value := [.string p.1, .string p.2]
def stC (s : ByteArray) : List Value := [.string s]
theorem prC_len (l : List Pr) : (l.flatMap prC).length = l.length * 2 := by
  induction l with
  | nil => rfl
  | cons p l ih => simp [prC] at ih ⊢; omega
theorem stC_len (l : List ByteArray) : (l.flatMap stC).length = l.length * 1 := by
  induction l with
  | nil => rfl
  | cons p l ih => simp [stC] at ih ⊢; exact ih
theorem stC_map (l : List ByteArray) : l.flatMap stC = l.map Value.string := by
  induction l with
  | nil => rfl
  | cons p l ih => simp [stC] at ih ⊢; exact ih
theorem prC_one (l : List Pr) : ∀ u ∈ l.flatMap prC, u.oneCell' = true := by
  intro u hu
  simp only [List.mem_flatMap, prC] at hu
  obtain ⟨p, _, hu⟩ := hu
  simp at hu
  rcases hu with rfl | rfl <;> rfl
theorem stC_one (l : List ByteArray) : ∀ u ∈ l.flatMap stC, u.oneCell' = true := by
  intro u hu
  simp only [List.mem_flatMap, stC] at hu
  obtain ⟨p, _, hu⟩ := hu
  simp at hu
  rcases hu with rfl
  rfl
theorem prC_at (l : List Pr) (i : Nat) (h : i < l.length) : (l.flatMap prC)[i * 2]? = some (.string (l.getD i default).1) ∧ (l.flatMap prC)[i * 2 + 1]? = some (.string (l.getD i default).2) := by
  induction l generalizing i with
  | nil => simp at h
  | cons p l ih =>
    cases i with
    | zero => simp [prC]
    | succ i =>
      have := ih i (by simpa using h)
      have e : (p :: l).flatMap prC = prC p ++ l.flatMap prC := rfl
      rw [e]
      constructor
      · rw [List.getElem?_append_right (by simp [prC]; omega)]
        have e2 : (i + 1) * 2 - (prC p).length = i * 2 := by simp [prC]; omega
        rw [e2]; simpa using this.1
      · rw [List.getElem?_append_right (by simp [prC]; omega)]
        have e2 : (i + 1) * 2 + 1 - (prC p).length = i * 2 + 1 := by simp [prC]; omega
        rw [e2]; simpa using this.2

def OwnS (B : Nat) (w0 : World) (v : Value) (xs : List ByteArray) (w : World) : Prop :=
  w.ownsRow B 9 1 v xs.length (xs.flatMap stC) ∧ Below B w0 w ∧ B ≤ w.heap.size
def OwnP (B : Nat) (w0 : World) (v : Value) (xs : List Pr) (w : World) : Prop :=
  w.ownsRow B 61 2 v xs.length (xs.flatMap prC) ∧ Below B w0 w ∧ B ≤ w.heap.size

section
variable {B : Nat} {w0 : World} {v : Value} {w : World}
theorem OwnS.alloc {xs : List ByteArray} (h : OwnS B w0 v xs w) (o : Obj) : OwnS B w0 v xs (w.alloc o) :=
  ⟨h.1.alloc o, h.2.1.alloc h.2.2 o, by have := h.2.2; simp; omega⟩
theorem OwnP.alloc {xs : List Pr} (h : OwnP B w0 v xs w) (o : Obj) : OwnP B w0 v xs (w.alloc o) :=
  ⟨h.1.alloc o, h.2.1.alloc h.2.2 o, by have := h.2.2; simp; omega⟩
theorem OwnS.drew {xs : List ByteArray} (h : OwnS B w0 v xs w) : OwnS B w0 v xs w.drew := ⟨h.1.drew, h.2.1.drew, h.2.2⟩
theorem OwnP.drew {xs : List Pr} (h : OwnP B w0 v xs w) : OwnP B w0 v xs w.drew := ⟨h.1.drew, h.2.1.drew, h.2.2⟩
/-- through a call that leaves all that is there -/
theorem owns_call {e : TypeId} {size n : Nat} {cs : List Value} {w' : World} (h : w.ownsRow B e size v n cs) (hb : Below w.heap.size w w') : w'.ownsRow B e size v n cs :=
  h.kept (row := none) ⟨hb.os, hb.tape, hb.output, hb.size, fun k hk _ => hb.block k hk⟩ (by cases hv : v.ownBlock <;> simp)
theorem OwnS.call {xs : List ByteArray} {w' : World} (h : OwnS B w0 v xs w) (hb : Below w.heap.size w w') : OwnS B w0 v xs w' :=
  ⟨owns_call h.1 hb, h.2.1.trans (hb.mono h.2.2), by have := hb.size; have := h.2.2; omega⟩
theorem OwnP.call {xs : List Pr} {w' : World} (h : OwnP B w0 v xs w) (hb : Below w.heap.size w w') : OwnP B w0 v xs w' :=
  ⟨owns_call h.1 hb, h.2.1.trans (hb.mono h.2.2), by have := hb.size; have := h.2.2; omega⟩
theorem Own.call {xs : List Int} {w' : World} (h : Own B w0 v xs w) (hb : Below w.heap.size w w') : Own B w0 v xs w' :=
  ⟨owns_call h.1 hb, h.2.1.trans (hb.mono h.2.2), by have := hb.size; have := h.2.2; omega⟩
/-- a cell of below B (or of another block) set -/
theorem owns_set {e : TypeId} {size n : Nat} {cs : List Value} (h : w.ownsRow B e size v n cs) (p : Addr) (hp : v.ownBlock ≠ some p.block) (u : Value) : (w.setCell p u).ownsRow B e size v n cs := by
  refine ⟨h.1, ?_⟩
  rcases h.2 with hn | ⟨g, cap, cur, rfl, hb, hgg, rest⟩
  · exact .inl hn
  · refine .inr ⟨g, cap, cur, rfl, hb, ?_, rest⟩
    rw [Below.heap_setCell _ _ _ _ (by intro h; apply hp; simp [Value.ownBlock, h])]
    exact hgg
end

theorem empS (B : Nat) (w0 w : World) (hb : Below B w0 w) (hB : B ≤ w.heap.size) : OwnS B w0 (.slice (some ⟨w.heap.size, 0, none⟩) 0 0) [] (w.alloc (.cells #[] 9 (0, 0))) :=
  ⟨World.ownsRow_made w #[] 0 hB (by unfold maxLen; omega) (by simp), hb.alloc hB _, by simp; omega⟩
theorem empP (B : Nat) (w0 w : World) (hb : Below B w0 w) (hB : B ≤ w.heap.size) : OwnP B w0 (.slice (some ⟨w.heap.size, 0, none⟩) 0 0) [] (w.alloc (.cells #[] 61 (0, 0))) :=
  ⟨World.ownsRow_made w #[] 0 hB (by unfold maxLen; omega) (by simp), hb.alloc hB _, by simp; omega⟩
theorem emp (B : Nat) (w0 w : World) (hb : Below B w0 w) (hB : B ≤ w.heap.size) : Own B w0 (.slice (some ⟨w.heap.size, 0, none⟩) 0 0) [] (w.alloc (.cells #[] 5 (0, 0))) :=
  ⟨World.ownsRow_made w #[] 0 hB (by unfold maxLen; omega) (by simp), hb.alloc hB _, by simp; omega⟩
theorem nilS (B : Nat) (w0 w : World) (hb : Below B w0 w) (hB : B ≤ w.heap.size) : OwnS B w0 (.slice none 0 0) [] w := ⟨World.ownsRow_nil _ _ _ _, hb, hB⟩
theorem nilP (B : Nat) (w0 w : World) (hb : Below B w0 w) (hB : B ≤ w.heap.size) : OwnP B w0 (.slice none 0 0) [] w := ⟨World.ownsRow_nil _ _ _ _, hb, hB⟩

/-! append -/
theorem wp_appS {o : Oper} {a : Act} {K : Act → World → Prop} {Q : Exit → Act → World → Prop} (w : World) (s x : Operand)
    (ho : o.op = .call { callee := .builtin .append, args := #[s, x], argTypes := #[30, 30] })
    (B : Nat) (w0 : World) (v : Value) (xs : List ByteArray) (hs : a.eval s = v) (hown : OwnS B w0 v xs w) (hn : xs.length ≤ 1000000000)
    (ad : Addr) (m c : Nat) (ys : List ByteArray) (hx : a.eval x = .slice (some ad) m c) (hm : ys.length = m) (hm1 : m ≤ 10) (hb : ∀ j u, (ys.flatMap stC)[j]? = some u → w.cell? (ad.add j) = some u)
    (h : ∀ v' w', OwnS B w0 v' (xs ++ ys) w' → w.grownBy w' v.ownBlock → v'.ownBlock = v.ownBlock ∨ v'.ownBlock = some w.heap.size → K (a.put o.dst v') w') : o.wp Tryz.prog a w K Q := by
  obtain ⟨i0, hi, hz0, hz1, hz2⟩ := info_parts info9
  have hr := run_append_own_at (P := Tryz.prog) w B 30 o.type 9 i0 (.string ⟨#[]⟩) 1 16 Tryz.underlying30 hi hz0 hz1 hz2 rfl (by omega) v xs.length _ hown.1 ad m c (ys.flatMap stC) (by rw [stC_len, hm]) hb (stC_one ys) (by unfold maxLen; omega) (by omega) hown.2.2
  obtain ⟨v', w', hr, h2, h3, _, h5⟩ := hr
  unfold Oper.wp execOp
  simp only [ho, resolve, invoke, builtin, Sem.run_bind, Sem.run_pure, Result.andThen_ok, List.map_toArray, List.map_cons, List.map_nil, hs, hx, hr]
  refine h v' w' ⟨?_, hown.2.1.grown h3 hown.2.2 (fun k hk => (hown.1.lt k hk).1), by have := h3.size; have := hown.2.2; omega⟩ h3 h5
  rw [List.length_append, List.flatMap_append, hm]
  exact h2
theorem wp_appP {o : Oper} {a : Act} {K : Act → World → Prop} {Q : Exit → Act → World → Prop} (w : World) (s x : Operand)
    (ho : o.op = .call { callee := .builtin .append, args := #[s, x], argTypes := #[31, 31] })
    (B : Nat) (w0 : World) (v : Value) (xs : List Pr) (hs : a.eval s = v) (hown : OwnP B w0 v xs w) (hn : xs.length ≤ 1000000000)
    (ad : Addr) (m c : Nat) (ys : List Pr) (hx : a.eval x = .slice (some ad) m c) (hm : ys.length = m) (hm1 : m ≤ 10) (hb : ∀ j u, (ys.flatMap prC)[j]? = some u → w.cell? (ad.add j) = some u)
    (h : ∀ v' w', OwnP B w0 v' (xs ++ ys) w' → w.grownBy w' v.ownBlock → v'.ownBlock = v.ownBlock ∨ v'.ownBlock = some w.heap.size → K (a.put o.dst v') w') : o.wp Tryz.prog a w K Q := by
  obtain ⟨i0, hi, hz0, hz1, hz2⟩ := info_parts info61
  have hr := run_append_own_at (P := Tryz.prog) w B 31 o.type 61 i0 (.agg #[.string ⟨#[]⟩, .string ⟨#[]⟩]) 2 32 Tryz.underlying31 hi hz0 hz1 hz2 rfl (by omega) v xs.length _ hown.1 ad m c (ys.flatMap prC) (by rw [prC_len, hm]) hb (prC_one ys) (by unfold maxLen; omega) (by omega) hown.2.2
  obtain ⟨v', w', hr, h2, h3, _, h5⟩ := hr
  unfold Oper.wp execOp
  simp only [ho, resolve, invoke, builtin, Sem.run_bind, Sem.run_pure, Result.andThen_ok, List.map_toArray, List.map_cons, List.map_nil, hs, hx, hr]
  refine h v' w' ⟨?_, hown.2.1.grown h3 hown.2.2 (fun k hk => (hown.1.lt k hk).1), by have := h3.size; have := hown.2.2; omega⟩ h3 h5
  rw [List.length_append, List.flatMap_append, hm]
  exact h2
theorem wpList_appS {ops : Array Oper} {rest : List Oper} {o : Oper} {a : Act} {Q : Exit → Act → World → Prop} (w : World) (hgd : o.guard = none) (s x : Operand)
    (ho : o.op = .call { callee := .builtin .append, args := #[s, x], argTypes := #[30, 30] })
    (B : Nat) (w0 : World) (v : Value) (xs : List ByteArray) (hs : a.eval s = v) (hown : OwnS B w0 v xs w) (hn : xs.length ≤ 1000000000)
    (b m c : Nat) (ys : List ByteArray) (hx : a.eval x = .slice (some ⟨b, 0, none⟩) m c) (hm : ys.length = m) (hm1 : m ≤ 10) (hb : w.heap[b]? = some (.cells (ys.flatMap stC).toArray 9 (0, 0)))
    (h : ∀ v' w', OwnS B w0 v' (xs ++ ys) w' → w.grownBy w' v.ownBlock → v'.ownBlock = v.ownBlock ∨ v'.ownBlock = some w.heap.size → wpList Tryz.prog ops Q rest (a.put o.dst v') w') : wpList Tryz.prog ops Q (o :: rest) a w :=
  wpList_plain hgd fun _ hK => wp_appS w s x ho B w0 v xs hs hown hn ⟨b, 0, none⟩ m c ys hx hm hm1 (World.news_of_block hb) fun v' w' h2 h3 h4 => hK _ _ (h v' w' h2 h3 h4)
theorem wpList_appP {ops : Array Oper} {rest : List Oper} {o : Oper} {a : Act} {Q : Exit → Act → World → Prop} (w : World) (hgd : o.guard = none) (s x : Operand)
    (ho : o.op = .call { callee := .builtin .append, args := #[s, x], argTypes := #[31, 31] })
    (B : Nat) (w0 : World) (v : Value) (xs : List Pr) (hs : a.eval s = v) (hown : OwnP B w0 v xs w) (hn : xs.length ≤ 1000000000)
    (b m c : Nat) (ys : List Pr) (hx : a.eval x = .slice (some ⟨b, 0, none⟩) m c) (hm : ys.length = m) (hm1 : m ≤ 10) (hb : w.heap[b]? = some (.cells (ys.flatMap prC).toArray 61 (0, 0)))
    (h : ∀ v' w', OwnP B w0 v' (xs ++ ys) w' → w.grownBy w' v.ownBlock → v'.ownBlock = v.ownBlock ∨ v'.ownBlock = some w.heap.size → wpList Tryz.prog ops Q rest (a.put o.dst v') w') : wpList Tryz.prog ops Q (o :: rest) a w :=
  wpList_plain hgd fun _ hK => wp_appP w s x ho B w0 v xs hs hown hn ⟨b, 0, none⟩ m c ys hx hm hm1 (World.news_of_block hb) fun v' w' h2 h3 h4 => hK _ _ (h v' w' h2 h3 h4)

/-- append(v, s...), a text's bytes -/
theorem wpList_appT {ops : Array Oper} {rest : List Oper} {o : Oper} {a : Act} {Q : Exit → Act → World → Prop} (w : World) (hgd : o.guard = none) (sl x : Operand)
    (ho : o.op = .call { callee := .builtin .append, args := #[sl, x], argTypes := #[74, 9] })
    (B : Nat) (w0 : World) (v : Value) (xs : List Int) (hs : a.eval sl = v) (hown : Own B w0 v xs w) (hn : xs.length ≤ 1000000000) (s : ByteArray) (hx : a.eval x = .string s) (hm : s.size ≤ 1000000000)
    (h : ∀ v' w', Own B w0 v' (xs ++ bs s) w' → wpList Tryz.prog ops Q rest (a.put o.dst v') w') : wpList Tryz.prog ops Q (o :: rest) a w := by
  obtain ⟨i0, hi, hz0, hz1, hz2⟩ := info_parts info5
  refine Lib.wpList_append_own_string w hgd sl x 74 9 ho B 5 i0 Tryz.underlying74 Tryz.underlying9 hi hz0 hz1 hz2 v xs.length _ hs hown.1 s hx (by unfold maxLen; omega) (by omega) hown.2.2 ?_
  intro v' w' h2 h3 _
  refine h v' w' ⟨?_, hown.2.1.grown h3 hown.2.2 (fun k hk => (hown.1.lt k hk).1), by have := h3.size; have := hown.2.2; omega⟩
  have e : Lib.strCells s = (bs s).map (Value.int .u8) := by simp [Lib.strCells, bs]
  rw [List.length_append, bs_len, List.map_append, ← e]
  exact h2

/-- make(.., 0, n) -/
theorem wpList_mkS {ops : Array Oper} {rest : List Oper} {o : Oper} {a : Act} {Q : Exit → Act → World → Prop} (w : World) (hg : o.guard = none) (l c : Operand) (hop : o.op = Op.makeSlice 30 l c)
    (B : Nat) (w0 : World) (hb : Below B w0 w) (hB : B ≤ w.heap.size)
    (C : Int) (n : Nat) (hl : a.eval l = .int .i64 0) (hc : a.eval c = .int .i64 C) (hC : C = (n : Int)) (hn : n ≤ 1000000000)
    (hK : ∀ v w', OwnS B w0 v [] w' → Below w.heap.size w w' → wpList Tryz.prog ops Q rest (a.put o.dst v) w') : wpList Tryz.prog ops Q (o :: rest) a w := by
  obtain ⟨i0, hi, hz0, hz1, hz2⟩ := info_parts info9
  refine wpList_make_own w hg l c 30 hop B 9 i0 (.string ⟨#[]⟩) 1 Tryz.underlying30 hi hz0 hz1 .i64 .i64 C n hl hc hC (by rw [hz2]; omega) (by unfold maxLen; omega) hB ?_
  intro w' h1 h2
  exact hK _ w' ⟨h1, hb.grown h2 hB (fun k hk => by cases hk), by have := h2.size; omega⟩ ((Below.refl _ w).grown h2 (Nat.le_refl _) (fun k hk => by cases hk))
theorem wpList_mkP {ops : Array Oper} {rest : List Oper} {o : Oper} {a : Act} {Q : Exit → Act → World → Prop} (w : World) (hg : o.guard = none) (l c : Operand) (hop : o.op = Op.makeSlice 31 l c)
    (B : Nat) (w0 : World) (hb : Below B w0 w) (hB : B ≤ w.heap.size)
    (C : Int) (n : Nat) (hl : a.eval l = .int .i64 0) (hc : a.eval c = .int .i64 C) (hC : C = (n : Int)) (hn : n ≤ 1000000000)
    (hK : ∀ v w', OwnP B w0 v [] w' → Below w.heap.size w w' → wpList Tryz.prog ops Q rest (a.put o.dst v) w') : wpList Tryz.prog ops Q (o :: rest) a w := by
  obtain ⟨i0, hi, hz0, hz1, hz2⟩ := info_parts info61
  refine wpList_make_own w hg l c 31 hop B 61 i0 (.agg #[.string ⟨#[]⟩, .string ⟨#[]⟩]) 2 Tryz.underlying31 hi hz0 hz1 .i64 .i64 C n hl hc hC (by rw [hz2]; omega) (by unfold maxLen; omega) hB ?_
  intro w' h1 h2
  exact hK _ w' ⟨h1, hb.grown h2 hB (fun k hk => by cases hk), by have := h2.size; omega⟩ ((Below.refl _ w).grown h2 (Nat.le_refl _) (fun k hk => by cases hk))

/-! as they are read -/
/-- the slice holds these texts -/
def Ss (w : World) (v : Value) (l : List ByteArray) : Prop :=
  ∃ A cap, v = .slice A l.length cap ∧ l.length ≤ cap ∧ (A = none → cap = 0) ∧ ∀ i, i < l.length → ∃ b o, A = some ⟨b, o, none⟩ ∧ w.cell? ⟨b, o + i, none⟩ = some (.string (l.getD i default))
def Ps (w : World) (v : Value) (l : List Pr) : Prop :=
  ∃ A cap, v = .slice A l.length cap ∧ l.length ≤ cap ∧ (A = none → cap = 0) ∧ ∀ i, i < l.length → ∃ b o, A = some ⟨b, o, none⟩ ∧ w.cell? ⟨b, o + i * 2, none⟩ = some (.string (l.getD i default).1) ∧ w.cell? ⟨b, o + i * 2 + 1, none⟩ = some (.string (l.getD i default).2)
theorem Ss.call {w w' : World} {v : Value} {l : List ByteArray} (h : Ss w v l) (hb : Below w.heap.size w w') : Ss w' v l := by
  obtain ⟨A, cap, h1, h2, h3, h4⟩ := h
  refine ⟨A, cap, h1, h2, h3, fun i hi => ?_⟩
  obtain ⟨b, o, ha, hc⟩ := h4 i hi
  exact ⟨b, o, ha, by rw [hb.cell (World.block_lt_of_cell? w _ hc)]; exact hc⟩
theorem Ps.call {w w' : World} {v : Value} {l : List Pr} (h : Ps w v l) (hb : Below w.heap.size w w') : Ps w' v l := by
  obtain ⟨A, cap, h1, h2, h3, h4⟩ := h
  refine ⟨A, cap, h1, h2, h3, fun i hi => ?_⟩
  obtain ⟨b, o, ha, hc, hd⟩ := h4 i hi
  exact ⟨b, o, ha, by rw [hb.cell (World.block_lt_of_cell? w _ hc)]; exact hc, by rw [hb.cell (World.block_lt_of_cell? w _ hd)]; exact hd⟩
theorem add_lit' (b i : Nat) : (⟨b, 0, none⟩ : Addr).add i = ⟨b, 0 + i, none⟩ := by rw [Addr.add_lit]
theorem OwnS.ss {B : Nat} {w0 : World} {v : Value} {xs : List ByteArray} {w : World} (h : OwnS B w0 v xs w) : Ss w v xs := by
  have hc := @World.ownsRow.cells _ _ _ _ _ _ _ h.1
  obtain ⟨hl, ⟨rfl, h1⟩ | ⟨g, cap, cur, rfl, _, _, h4, _⟩⟩ := h.1
  · obtain rfl : xs = [] := List.eq_nil_of_length_eq_zero h1
    exact ⟨none, 0, rfl, by simp, fun _ => rfl, fun i hi => by simp at hi⟩
  · refine ⟨some ⟨g, 0, none⟩, cap, rfl, h4, (fun h => by cases h), fun i hi => ⟨g, 0, rfl, ?_⟩⟩
    have := hc rfl i (.string (xs.getD i default)) (by rw [stC_map]; simp [List.getD, hi])
    rw [add_lit'] at this
    exact this
theorem OwnP.ps {B : Nat} {w0 : World} {v : Value} {xs : List Pr} {w : World} (h : OwnP B w0 v xs w) : Ps w v xs := by
  have hc := @World.ownsRow.cells _ _ _ _ _ _ _ h.1
  obtain ⟨hl, ⟨rfl, h1⟩ | ⟨g, cap, cur, rfl, _, _, h4, _⟩⟩ := h.1
  · obtain rfl : xs = [] := List.eq_nil_of_length_eq_zero h1
    exact ⟨none, 0, rfl, by simp, fun _ => rfl, fun i hi => by simp at hi⟩
  · refine ⟨some ⟨g, 0, none⟩, cap, rfl, h4, (fun h => by cases h), fun i hi => ⟨g, 0, rfl, ?_, ?_⟩⟩
    · have := hc rfl (i * 2) _ (prC_at xs i hi).1
      rw [add_lit'] at this
      exact this
    · have := hc rfl (i * 2 + 1) _ (prC_at xs i hi).2
      rw [add_lit', ← Nat.add_assoc] at this
      exact this
theorem ss_nil (w : World) : Ss w (.slice none 0 0) [] := ⟨none, 0, rfl, by simp, fun _ => rfl, fun i hi => by simp at hi⟩
theorem ps_nil (w : World) : Ps w (.slice none 0 0) [] := ⟨none, 0, rfl, by simp, fun _ => rfl, fun i hi => by simp at hi⟩
end Go.Proofs.YthigandmemifoaaGreatDoor

namespace Go.Proofs.YthigandmemifoaaGreatDoor
open Go.RowKit

/-- Of what was there just the blocks in S may have turned. -/
structure Kp (S : Nat → Prop) (w w' : World) : Prop where
  os : w'.os = w.os
  tape : w'.tape = w.tape
  output : w'.output = w.output
  size : w.heap.size ≤ w'.heap.size
  block : ∀ k, k < w.heap.size → ¬ S k → w'.heap[k]? = w.heap[k]?

theorem Kp.refl (S : Nat → Prop) (w : World) : Kp S w w := ⟨rfl, rfl, rfl, Nat.le_refl _, fun _ _ _ => rfl⟩

theorem Kp.trans {S : Nat → Prop} {a b c : World} (h : Kp S a b) {T : Nat → Prop} (k : Kp T b c) (hT : ∀ i, i < a.heap.size → T i → S i) : Kp S a c :=
  ⟨k.os.trans h.os, k.tape.trans h.tape, k.output.trans h.output, Nat.le_trans h.size k.size, fun i hi hn => (k.block i (Nat.lt_of_lt_of_le hi h.size) (fun t => hn (hT i hi t))).trans (h.block i hi hn)⟩

theorem Kp.mono {S T : Nat → Prop} {w w' : World} (h : Kp S w w') (hT : ∀ i, i < w.heap.size → S i → T i) : Kp T w w' :=
  ⟨h.os, h.tape, h.output, h.size, fun k hk hn => h.block k hk (fun s => hn (hT k hk s))⟩

theorem Kp.drew {S : Nat → Prop} {a w : World} (h : Kp S a w) : Kp S a w.drew := ⟨h.os, h.tape, h.output, h.size, h.block⟩

theorem Kp.alloc {S : Nat → Prop} {a w : World} (h : Kp S a w) (o : Obj) : Kp S a (w.alloc o) :=
  h.trans (T := fun _ => False) ⟨rfl, rfl, rfl, by simp, fun k hk _ => Below.heap_alloc _ _ _ (by omega)⟩ (fun _ _ t => t.elim)

/-- A store into a block that S names, or into a new one. -/
theorem Kp.setCell {S : Nat → Prop} {a w : World} (h : Kp S a w) {p : Addr} (hp : p.block < a.heap.size → S p.block) (u : Value) : Kp S a (w.setCell p u) :=
  h.trans (T := fun k => k = p.block) ⟨rfl, rfl, rfl, by simp [World.setCell], fun k _ hn => Below.heap_setCell _ _ _ _ hn⟩ (fun i hi t => by subst t; exact hp hi)

theorem Kp.grown {S : Nat → Prop} {a w w' : World} {row : Option Nat} (h : Kp S a w) (hg : w.grownBy w' row) (hr : ∀ k, k < a.heap.size → row = some k → S k) : Kp S a w' :=
  h.trans (T := fun k => some k = row) ⟨hg.os, hg.tape, hg.output, hg.size, fun k hk hn => hg.block k hk hn⟩ (fun i hi t => hr i hi t.symm)

theorem Kp.cell {S : Nat → Prop} {w w' : World} (h : Kp S w w') {p : Addr} (hp : p.block < w.heap.size) (hn : ¬ S p.block) : w'.cell? p = w.cell? p := World.cell?_of_block (w := w) (h.block p.block hp hn)
theorem Kp.frozen {S : Nat → Prop} {w w' : World} (h : Kp S w w') {p : Addr} (hp : p.block < w.heap.size) (hn : ¬ S p.block) : w'.frozen? p = w.frozen? p := World.frozen?_of_block (w := w) (h.block p.block hp hn)

theorem Kp.below {S : Nat → Prop} {B : Nat} {w w' : World} (h : Kp S w w') (hB : B ≤ w.heap.size) (hS : ∀ k, k < B → ¬ S k) : Below B w w' :=
  ⟨h.os, h.tape, h.output, h.size, fun k hk => h.block k (by omega) (hS k hk)⟩
theorem Kp.of_below {w w' : World} (h : Below w.heap.size w w') (S : Nat → Prop) : Kp S w w' :=
  ⟨h.os, h.tape, h.output, h.size, fun k hk _ => h.block k hk⟩

/-- A block that is known whole: its cells, and that they may be written. -/
theorem blk_cell {w : World} {b : Nat} {cs : Array Value} {t : TypeId} (h : w.heap[b]? = some (.cells cs t (0, 0))) (o : Nat) : w.cell? ⟨b, o, none⟩ = cs[o]? := by
  simp [World.cell?, h]
theorem blk_frozen {w : World} {b : Nat} {cs : Array Value} {t : TypeId} (h : w.heap[b]? = some (.cells cs t (0, 0))) (o : Nat) : w.frozen? ⟨b, o, none⟩ = false := by
  simp [World.frozen?, h]
theorem blk_lt {w : World} {b : Nat} {o : Obj} (h : w.heap[b]? = some o) : b < w.heap.size := (Array.getElem?_eq_some_iff.1 h).1
theorem blk_alloc {w : World} {b : Nat} {o : Obj} (h : w.heap[b]? = some o) (x : Obj) : (w.alloc x).heap[b]? = some o := (Below.heap_alloc w x b (blk_lt h)).trans h
theorem blk_new (w : World) (x : Obj) : (w.alloc x).heap[w.heap.size]? = some x := by
  show (w.heap.push x)[w.heap.size]? = _
  simp
theorem blk_setCell {w : World} {b : Nat} {cs : Array Value} {t : TypeId} (h : w.heap[b]? = some (.cells cs t (0, 0))) (o : Nat) (u : Value) :
    (w.setCell ⟨b, o, none⟩ u).heap[b]? = some (.cells (cs.setIfInBounds o u) t (0, 0)) := by
  simp [World.setCell, Array.getElem?_modify, h]
theorem blk_setCell_other {w : World} {b : Nat} {x : Obj} (h : w.heap[b]? = some x) {p : Addr} (hp : b ≠ p.block) (u : Value) : (w.setCell p u).heap[b]? = some x :=
  (Below.heap_setCell w p u b hp).trans h
theorem blk2 {w : World} {b : Nat} {x y : Value} {t : TypeId} (h : w.heap[b]? = some (.cells #[x, y] t (0, 0))) :
    w.cell? ⟨b, 0, none⟩ = some x ∧ w.cell? ⟨b, 1, none⟩ = some y ∧ w.frozen? ⟨b, 0, none⟩ = false ∧ w.frozen? ⟨b, 1, none⟩ = false := by
  refine ⟨?_, ?_, blk_frozen h 0, blk_frozen h 1⟩ <;> rw [blk_cell h] <;> rfl
theorem blk_call {w w' : World} {b : Nat} {o : Obj} (h : w.heap[b]? = some o) (hb : Below w.heap.size w w') : w'.heap[b]? = some o := (hb.block b (blk_lt h)).trans h
end Go.Proofs.YthigandmemifoaaGreatDoor
