/-
  Put together: Rec, Sink, Inv.
-/
import Derived.Test.YtnnmbpghkflepaaGreatDoorTlP04
import Derived.OrdersHeld
import Derived.StillTail
namespace Go.Proofs.YtnnmbpghkflepaaGreatDoor
open Go.RowKit Go.PlainAid
set_option maxRecDepth 100000

/-- a record: its name, its parent, where its segments lie, what they are, and the rest -/
structure Rc where
  n : ByteArray
  p : Int
  u : Value
  l : List Sg
  c : Int
  k : Bool
  rk : Int
  rf : Int
  rt : ByteArray
instance : Inhabited Rc := ⟨⟨⟨#[]⟩, 0, .slice none 0 0, [], 0, false, 0, 0, ⟨#[]⟩⟩⟩
def rcC (r : Rc) : List Value := [.string r.n, .int .i64 r.p, r.u, .int .i64 r.c, .bool r.k, .int .i64 r.rk, .int .i64 r.rf, .string r.rt]
theorem info59 : (Tryz.prog.info? 59).map (fun i => (i.zero, i.size, i.bytes)) = some (some (.agg #[.string ⟨#[]⟩, .int .i64 0, .slice none 0 0, .int .i64 0, .bool false, .int .i64 0, .int .i64 0, .string ⟨#[]⟩]), 8, 96) := by kernel_rfl
theorem rcC_len (l : List Rc) : (l.flatMap rcC).length = l.length * 8 := by
  induction l with
  | nil => rfl
  | cons p l ih => simp [rcC] at ih ⊢; omega
theorem rcC_at (l : List Rc) (i j : Nat) (h : i < l.length) (hj : j < 8) : (l.flatMap rcC)[i * 8 + j]? = (rcC (l.getD i default))[j]? := by
  induction l generalizing i with
  | nil => simp at h
  | cons p l ih =>
    have e : (p :: l).flatMap rcC = rcC p ++ l.flatMap rcC := rfl
    have hl : (rcC p).length = 8 := rfl
    rw [e]
    cases i with
    | zero =>
      rw [List.getElem?_append_left (by rw [hl]; omega)]
      simp
    | succ i =>
      rw [List.getElem?_append_right (by rw [hl]; omega)]
      have e2 : (i + 1) * 8 + j - (rcC p).length = i * 8 + j := by rw [hl]; omega
      rw [e2, ih i (by simpa using h)]
      simp

/-- the eight cells of a record -/
structure RcAt (w : World) (b o : Nat) (r : Rc) : Prop where
  c0 : w.cell? ⟨b, o, none⟩ = some (.string r.n)
  c1 : w.cell? ⟨b, o + 1, none⟩ = some (.int .i64 r.p)
  c2 : w.cell? ⟨b, o + 2, none⟩ = some r.u
  c3 : w.cell? ⟨b, o + 3, none⟩ = some (.int .i64 r.c)
  c4 : w.cell? ⟨b, o + 4, none⟩ = some (.bool r.k)
  c5 : w.cell? ⟨b, o + 5, none⟩ = some (.int .i64 r.rk)
  c6 : w.cell? ⟨b, o + 6, none⟩ = some (.int .i64 r.rf)
  c7 : w.cell? ⟨b, o + 7, none⟩ = some (.string r.rt)
theorem RcAt.of {w : World} {b o : Nat} {r : Rc} (h : ∀ j, j < 8 → w.cell? ⟨b, o + j, none⟩ = (rcC r)[j]?) : RcAt w b o r :=
  ⟨h 0 (by omega), h 1 (by omega), h 2 (by omega), h 3 (by omega), h 4 (by omega), h 5 (by omega), h 6 (by omega), h 7 (by omega)⟩
theorem RcAt.to {w : World} {b o : Nat} {r : Rc} (h : RcAt w b o r) : ∀ j u, (rcC r)[j]? = some u → w.cell? ⟨b, o + j, none⟩ = some u := by
  intro j u hu
  have hj : j < 8 := (List.getElem?_eq_some_iff.1 hu).1
  rw [← hu]
  rcases (show j = 0 ∨ j = 1 ∨ j = 2 ∨ j = 3 ∨ j = 4 ∨ j = 5 ∨ j = 6 ∨ j = 7 by omega) with rfl | rfl | rfl | rfl | rfl | rfl | rfl | rfl
  · exact h.c0
  · exact h.c1
  · exact h.c2
  · exact h.c3
  · exact h.c4
  · exact h.c5
  · exact h.c6
  · exact h.c7
theorem RcAt.call {w w' : World} {b o : Nat} {r : Rc} (h : RcAt w b o r) (hb : Below w.heap.size w w') : RcAt w' b o r := by
  have k : ∀ (p : Addr) (v : Value), w.cell? p = some v → w'.cell? p = some v := fun p v hc => by rw [hb.cell (World.block_lt_of_cell? w _ hc)]; exact hc
  exact ⟨k _ _ h.c0, k _ _ h.c1, k _ _ h.c2, k _ _ h.c3, k _ _ h.c4, k _ _ h.c5, k _ _ h.c6, k _ _ h.c7⟩

/-- the slice holds these records -/
def Rs (w : World) (v : Value) (l : List Rc) : Prop :=
  ∃ A cap, v = .slice A l.length cap ∧ l.length ≤ cap ∧ (A = none → cap = 0) ∧ (∀ i, i < l.length → ∃ b o, A = some ⟨b, o, none⟩ ∧ RcAt w b (o + i * 8) (l.getD i default)) ∧ ∀ r ∈ l, Gs w r.u r.l
theorem Rs.call {w w' : World} {v : Value} {l : List Rc} (h : Rs w v l) (hb : Below w.heap.size w w') : Rs w' v l := by
  obtain ⟨A, cap, h1, h2, h3, h4, h5⟩ := h
  refine ⟨A, cap, h1, h2, h3, fun i hi => ?_, fun r hr => (h5 r hr).call hb⟩
  obtain ⟨b, o, ha, hc⟩ := h4 i hi
  exact ⟨b, o, ha, hc.call hb⟩
theorem Rs.shape {w : World} {v : Value} {l : List Rc} (h : Rs w v l) : ∃ A n c, v = .slice A n c := by
  obtain ⟨A, cap, e, _⟩ := h
  exact ⟨_, _, _, e⟩
theorem Rs.len {w : World} {v : Value} {l : List Rc} (h : Rs w v l) : ∃ A c, v = .slice A l.length c := by
  obtain ⟨A, cap, e, _⟩ := h
  exact ⟨_, _, e⟩
theorem Rs.at {w : World} {A : Option Addr} {n c : Nat} {l : List Rc} (h : Rs w (.slice A n c) l) (i : Nat) (hi : i < l.length) : ∃ b o, A = some ⟨b, o, none⟩ ∧ RcAt w b (o + i * 8) (l.getD i default) ∧ Gs w (l.getD i default).u (l.getD i default).l := by
  obtain ⟨A', cap, h1, h2, h3, h4, h5⟩ := h
  cases h1
  obtain ⟨b, o, ha, hc⟩ := h4 i hi
  exact ⟨b, o, ha, hc, h5 _ (getD_mem l i hi)⟩
theorem rs_nil (w : World) : Rs w (.slice none 0 0) [] := ⟨none, 0, rfl, by simp, fun _ => rfl, fun i hi => by simp at hi, fun r hr => by simp at hr⟩
/-- the first some of a slice -/
theorem Rs.take {w : World} {A : Option Addr} {n c : Nat} {l : List Rc} (h : Rs w (.slice A n c) l) (k : Nat) (hk : k ≤ l.length) : Rs w (.slice A k c) (l.take k) := by
  obtain ⟨A', cap, h1, h2, h3, h4, h5⟩ := h
  cases h1
  have hl : (l.take k).length = k := by rw [List.length_take]; omega
  refine ⟨A, c, by rw [hl], by rw [hl]; omega, h3, fun i hi => ?_, fun r hr => h5 r (List.mem_of_mem_take hr)⟩
  rw [hl] at hi
  obtain ⟨b, o, ha, hc⟩ := h4 i (by omega)
  refine ⟨b, o, ha, ?_⟩
  have e : (l.take k).getD i default = l.getD i default := by simp only [List.getD]; rw [List.getElem?_take_of_lt hi]
  rw [e]
  exact hc

theorem Gt.grown2 {w w' : World} {v : Value} {l : List Sg} {row : Option Nat} (h : Gt w v l) (hg : w.grownBy w' row) (hrow : ∀ g, row = some g → ∃ cur t fz, w.heap[g]? = some (.cells cur t fz) ∧ t ≠ 49) : Gt w' v l := by
  have key : ∀ b o n c, v = .slice (some ⟨b, o, none⟩) n c → w'.heap[b]? = w.heap[b]? := by
    intro b o n c e
    obtain ⟨cur, fz, hk⟩ := h.2 b o n c e
    refine hg.block b (blk_lt hk) ?_
    intro e2
    obtain ⟨cur', t, fz', hk', ht⟩ := hrow b e2.symm
    rw [hk] at hk'
    cases hk'
    exact ht rfl
  refine ⟨?_, fun b o n c e => ?_⟩
  · obtain ⟨A, cap, e, h2, h3, h4⟩ := h.1
    refine ⟨A, cap, e, h2, h3, fun i hi => ?_⟩
    obtain ⟨b, o, ha, hc, hd⟩ := h4 i hi
    have hk := key b o l.length cap (by rw [e, ha])
    exact ⟨b, o, ha, by rw [World.cell?_of_block (w := w) hk]; exact hc, by rw [World.cell?_of_block (w := w) hk]; exact hd⟩
  · obtain ⟨cur, fz, hk⟩ := h.2 b o n c e
    exact ⟨cur, fz, (key b o n c e).trans hk⟩
theorem gt_nil (w : World) : Gt w (.slice none 0 0) [] := ⟨gs_nil w, fun b o n c e => by cases e⟩

/-- records in a row of the call's own, their segments each in a block of segments -/
def OwnR (B : Nat) (w0 : World) (v : Value) (xs : List Rc) (w : World) : Prop :=
  w.ownsRow B 59 8 v xs.length (xs.flatMap rcC) ∧ Below B w0 w ∧ B ≤ w.heap.size ∧ ∀ r ∈ xs, Gt w r.u r.l
section
variable {B : Nat} {w0 : World} {v : Value} {w : World} {xs : List Rc}
theorem owns59 {n : Nat} {us : List Value} (h : w.ownsRow B 59 8 v n us) : ∀ g, v.ownBlock = some g → ∃ cur t fz, w.heap[g]? = some (.cells cur t fz) ∧ t ≠ 49 := by
  intro g hg
  obtain ⟨_, ⟨rfl, _⟩ | ⟨g', cap, cur, rfl, _, hk, _⟩⟩ := h
  · cases hg
  · cases hg
    exact ⟨cur, _, _, hk, by decide⟩
theorem OwnR.call {w' : World} (h : OwnR B w0 v xs w) (hb : Below w.heap.size w w') : OwnR B w0 v xs w' :=
  ⟨owns_call h.1 hb, h.2.1.trans (hb.mono h.2.2.1), by have := hb.size; have := h.2.2.1; omega, fun r hr => (h.2.2.2 r hr).call hb⟩
theorem OwnR.alloc (h : OwnR B w0 v xs w) (o : Obj) : OwnR B w0 v xs (w.alloc o) := h.call ((Below.refl _ _).alloc (Nat.le_refl _) o)
theorem OwnR.below (h : OwnR B w0 v xs w) : Below B w0 w := h.2.1
theorem OwnR.size (h : OwnR B w0 v xs w) : B ≤ w.heap.size := h.2.2.1
theorem nilR (B : Nat) (w0 w : World) (hb : Below B w0 w) (hB : B ≤ w.heap.size) : OwnR B w0 (.slice none 0 0) [] w := ⟨World.ownsRow_nil _ _ _ _, hb, hB, fun r hr => by simp at hr⟩
theorem empR (B : Nat) (w0 w : World) (hb : Below B w0 w) (hB : B ≤ w.heap.size) : OwnR B w0 (.slice (some ⟨w.heap.size, 0, none⟩) 0 0) [] (w.alloc (.cells #[] 59 (0, 0))) :=
  ⟨World.ownsRow_made w #[] 0 hB (by unfold maxLen; omega) (by simp), hb.alloc hB _, by simp; omega, fun r hr => by simp at hr⟩
theorem OwnR.rs (h : OwnR B w0 v xs w) : Rs w v xs := by
  obtain ⟨h1, _, _, h4⟩ := h
  have hc := @World.ownsRow.cells _ _ _ _ _ _ _ h1
  obtain ⟨hl, ⟨rfl, h0⟩ | ⟨g, cap, cur, rfl, _, _, h5, _⟩⟩ := h1
  · obtain rfl : xs = [] := List.eq_nil_of_length_eq_zero h0
    exact rs_nil _
  · refine ⟨some ⟨g, 0, none⟩, cap, rfl, h5, (fun h => by cases h), fun i hi => ⟨g, 0, rfl, RcAt.of fun j hj => ?_⟩, fun r hr => (h4 r hr).1⟩
    have h8 : j < (rcC (xs.getD i default)).length := hj
    have e := rcC_at xs i j hi hj
    rw [List.getElem?_eq_getElem h8] at e
    have := hc rfl (i * 8 + j) _ e
    rw [add_lit', ← Nat.add_assoc] at this
    rw [this, List.getElem?_eq_getElem h8]
theorem OwnR.shape (h : OwnR B w0 v xs w) : ∃ A n c, v = .slice A n c := h.rs.shape

/-- the records hold values of one cell -/
def OneR (ys : List Rc) : Prop := ∀ r ∈ ys, r.u.oneCell' = true
theorem one_of {ys : List Rc} {w : World} (h : ∀ r ∈ ys, Gs w r.u r.l) : OneR ys := by
  intro r hr
  obtain ⟨A, n, c, e⟩ := (h r hr).shape
  rw [e]
  rfl
theorem rcC_one {ys : List Rc} (h : OneR ys) : ∀ u ∈ ys.flatMap rcC, u.oneCell' = true := by
  intro u hu
  simp only [List.mem_flatMap, rcC] at hu
  obtain ⟨p, hp, hu⟩ := hu
  have := h p hp
  simp at hu
  rcases hu with rfl | rfl | rfl | rfl | rfl | rfl | rfl | rfl
  all_goals first | rfl | exact this

/-- append(v, x...) of records -/
theorem wp_appR {o : Oper} {a : Act} {K : Act → World → Prop} {Q : Exit → Act → World → Prop} (s x : Operand)
    (ho : o.op = .call { callee := .builtin .append, args := #[s, x], argTypes := #[22, 22] })
    (hs : a.eval s = v) (hown : OwnR B w0 v xs w) (hn : xs.length ≤ 1000)
    (ad : Addr) (m c : Nat) (ys : List Rc) (hx : a.eval x = .slice (some ad) m c) (hm : ys.length = m) (hm1 : m ≤ 1000) (hb : ∀ j u, (ys.flatMap rcC)[j]? = some u → w.cell? (ad.add j) = some u) (hy : ∀ r ∈ ys, Gt w r.u r.l)
    (h : ∀ v' w', OwnR B w0 v' (xs ++ ys) w' → w.grownBy w' v.ownBlock → v'.ownBlock = v.ownBlock ∨ v'.ownBlock = some w.heap.size → K (a.put o.dst v') w') : o.wp Tryz.prog a w K Q := by
  obtain ⟨i0, hi, hz0, hz1, hz2⟩ := info_parts info59
  obtain ⟨h1, h2, h3, h4⟩ := hown
  have hr := run_append_own_at (P := Tryz.prog) w B 22 o.type 59 i0 (.agg #[.string ⟨#[]⟩, .int .i64 0, .slice none 0 0, .int .i64 0, .bool false, .int .i64 0, .int .i64 0, .string ⟨#[]⟩]) 8 96 Tryz.underlying22 hi hz0 hz1 hz2 rfl (by omega) v xs.length _ h1 ad m c (ys.flatMap rcC) (by rw [rcC_len, hm]) hb (rcC_one (one_of fun r hr => (hy r hr).1)) (by unfold maxLen; omega) (by omega) h3
  obtain ⟨v', w', hr, g2, g3, _, g5⟩ := hr
  unfold Oper.wp execOp
  simp only [ho, resolve, invoke, builtin, Sem.run_bind, Sem.run_pure, Result.andThen_ok, List.map_toArray, List.map_cons, List.map_nil, hs, hx, hr]
  refine h v' w' ⟨?_, h2.grown g3 h3 (fun k hk => (h1.lt k hk).1), by have := g3.size; omega, fun r hr => ?_⟩ g3 g5
  · rw [List.length_append, List.flatMap_append, hm]
    exact g2
  · rw [List.mem_append] at hr
    rcases hr with hr | hr
    · exact (h4 r hr).grown2 g3 (owns59 h1)
    · exact (hy r hr).grown2 g3 (owns59 h1)
theorem wpList_appR {ops : Array Oper} {rest : List Oper} {o : Oper} {a : Act} {Q : Exit → Act → World → Prop} (hgd : o.guard = none) (s x : Operand)
    (ho : o.op = .call { callee := .builtin .append, args := #[s, x], argTypes := #[22, 22] })
    (hs : a.eval s = v) (hown : OwnR B w0 v xs w) (hn : xs.length ≤ 1000)
    (b m c : Nat) (ys : List Rc) (hx : a.eval x = .slice (some ⟨b, 0, none⟩) m c) (hm : ys.length = m) (hm1 : m ≤ 1000) (hb : w.heap[b]? = some (.cells (ys.flatMap rcC).toArray 59 (0, 0))) (hy : ∀ r ∈ ys, Gt w r.u r.l)
    (h : ∀ v' w', OwnR B w0 v' (xs ++ ys) w' → w.grownBy w' v.ownBlock → v'.ownBlock = v.ownBlock ∨ v'.ownBlock = some w.heap.size → wpList Tryz.prog ops Q rest (a.put o.dst v') w') : wpList Tryz.prog ops Q (o :: rest) a w :=
  wpList_plain hgd fun _ hK => wp_appR s x ho hs hown hn ⟨b, 0, none⟩ m c ys hx hm hm1 (World.news_of_block hb) hy fun v' w' h2 h3 h4 => hK _ _ (h v' w' h2 h3 h4)
end

/-- append(v, x...) of segments, x perhaps none -/
theorem wp_catG {o : Oper} {a : Act} {K : Act → World → Prop} {Q : Exit → Act → World → Prop} (w : World) (s x : Operand)
    (ho : o.op = .call { callee := .builtin .append, args := #[s, x], argTypes := #[50, 50] })
    (B : Nat) (w0 : World) (v : Value) (xs : List Sg) (hs : a.eval s = v) (hown : OwnG B w0 v xs w) (hn : xs.length ≤ 1000)
    (xv : Value) (ys : List Sg) (hx : a.eval x = xv) (hm1 : ys.length ≤ 10) (hb : Gs w xv ys)
    (h : ∀ v' w', OwnG B w0 v' (xs ++ ys) w' → w.grownBy w' v.ownBlock → K (a.put o.dst v') w') : o.wp Tryz.prog a w K Q := by
  obtain ⟨A, c, rfl, hmc, hA, hb⟩ := hb
  cases A with
  | none =>
    have hc0 := hA rfl
    subst hc0
    obtain rfl : ys = [] := List.eq_nil_of_length_eq_zero (by omega)
    obtain ⟨i0, hi, hz0, hz1, hz2⟩ := info_parts info49
    have hr := run_append_owned_none (P := Tryz.prog) (w := w) B 50 o.type 49 i0 2 Tryz.underlying50 hi v _ _ hown.1
    unfold Oper.wp execOp
    simp only [ho, resolve, invoke, builtin, Sem.run_bind, Sem.run_pure, Result.andThen_ok, List.map_toArray, List.map_cons, List.map_nil, hs, hx, List.length_nil, hr]
    rw [List.append_nil] at h
    exact h v w hown (World.grownBy.refl _ _)
  | some ad =>
    refine wp_appG w s x ho B w0 v xs hs hown (by omega) ad _ c ys hx rfl hm1 ?_ (fun v' w' h2 h3 _ => h v' w' h2 h3)
    intro j u hu
    have hj : j < ys.length * 2 := by
      have := (List.getElem?_eq_some_iff.1 hu).1
      rw [sgC_len] at this
      exact this
    obtain ⟨b, off, e, c1, c2⟩ := hb (j / 2) (by omega)
    cases e
    obtain ⟨k1, k2⟩ := sgC_at ys (j / 2) (by omega)
    rw [Addr.add_lit]
    rcases (show j = j / 2 * 2 ∨ j = j / 2 * 2 + 1 by omega) with e | e
    · rw [e, k1] at hu
      rw [e, c1]
      exact hu
    · rw [e, k2] at hu
      rw [e, ← Nat.add_assoc, c2]
      exact hu
theorem wpList_catG {ops : Array Oper} {rest : List Oper} {o : Oper} {a : Act} {Q : Exit → Act → World → Prop} (w : World) (hgd : o.guard = none) (s x : Operand)
    (ho : o.op = .call { callee := .builtin .append, args := #[s, x], argTypes := #[50, 50] })
    (B : Nat) (w0 : World) (v : Value) (xs : List Sg) (hs : a.eval s = v) (hown : OwnG B w0 v xs w) (hn : xs.length ≤ 1000)
    (xv : Value) (ys : List Sg) (hx : a.eval x = xv) (hm1 : ys.length ≤ 10) (hb : Gs w xv ys)
    (h : ∀ v' w', OwnG B w0 v' (xs ++ ys) w' → w.grownBy w' v.ownBlock → wpList Tryz.prog ops Q rest (a.put o.dst v') w') : wpList Tryz.prog ops Q (o :: rest) a w :=
  wpList_plain hgd fun _ hK => wp_catG w s x ho B w0 v xs hs hown hn xv ys hx hm1 hb fun v' w' h2 h3 => hK _ _ (h v' w' h2 h3)
end Go.Proofs.YtnnmbpghkflepaaGreatDoor

namespace Go.Proofs.YtnnmbpghkflepaaGreatDoor
open Go

section
variable {P : Program} {ops : Array Oper} {Q : Exit → Act → World → Prop} {md : Region.Mode} {S : World → Prop} {n : Nat}

/-- whatever order comes, S holds behind each operation but number n -/
def wpSink (P : Program) (md : Region.Mode) (ops : Array Oper) (Q : Exit → Act → World → Prop) (S : World → Prop) (n : Nat) : Nat → Array Bool → Act → World → Prop
  | 0, ls, a, w => Region.ready md ops ls = [] ∧ Q .normal a w
  | m + 1, ls, a, w => (Region.ready md ops ls = [] → Q .normal a w) ∧
      ∀ i ∈ Region.ready md ops ls, wpOp P ops Q i (fun a' w' => (i = n ∨ S w') ∧ wpSink P md ops Q S n m (ls.setIfInBounds i true) a' w') a w

theorem wpAny_of_sink : ∀ (m : Nat) (ls : Array Bool) (a : Act) (w : World), wpSink P md ops Q S n m ls a w → wpAny P md ops Q m ls a w := by
  intro m
  induction m with
  | zero => exact fun _ _ _ h => h
  | succ m ih => exact fun ls a w h => ⟨h.1, fun i hi => wpOp_mono (fun a' w' h' => ih _ a' w' h'.2) (h.2 i hi)⟩

theorem wp_region_sink {id : Nat} {a : Act} {w : World} (hm : P.follows .mixedOrders = true)
    (h : wpSink P .any ops Q S n ops.size (Array.replicate ops.size false) a w.drew) : (Code.region id ops true).wp P Q a w :=
  wp_region_any hm (wpAny_of_sink _ _ _ _ h)

/-- what waits for i isn't ready while i hasn't come -/
theorem not_ready {i j : Nat} {ls : Array Bool} (hw : Region.waitsFor md ops j i = true) (hi : i ∈ Region.ready md ops ls) : ¬ j ∈ Region.ready md ops ls := by
  intro hj
  obtain ⟨oj, ho, e, he, hb, hon⟩ := Region.waitsFor_spec hw
  obtain ⟨_, oj', ho', hall⟩ := mem_ready.1 hj
  rw [ho] at ho'
  cases ho'
  have h1 := hall e he hb
  have h0 := (mem_ready.1 hi).1
  rw [hon] at h1
  rw [getD_both h0] at h1
  cases h1

/-- of what hasn't come yet, all that don't wait for i are apart from it -/
def Clear (md : Region.Mode) (ops : Array Oper) (i : Nat) (oi : Oper) (ls : Array Bool) : Prop :=
  ∀ j oj, ops[j]? = some oj → j ≠ i → ls.getD j true = false → (∀ e ∈ oj.after, Region.binds md e = true → e.on ≠ i) → oi.apart ops oj = true
theorem Clear.next {i j : Nat} {oi : Oper} {ls : Array Bool} (h : Clear md ops i oi ls) (hj : ls.getD j true = false) : Clear md ops i oi (ls.setIfInBounds j true) := by
  intro k ok hk hki hun hno
  by_cases e : j = k
  · subst e; exact h j ok hk hki hj hno
  · exact h k ok hk hki (by rw [getD_set_ne true e] at hun; exact hun) hno

theorem sink_first {i : Nat} {oi : Oper} {v : Value} (hi : ops[i]? = some oi) (hs : Region.noSelect ops = true) (hw : Region.waitsFor md ops n i = true)
    (hQ : ∀ c a w, Q (.panic c) (a.put oi.dst v) w → Q (.panic c) a w) :
    ∀ (m : Nat) (ls : Array Bool) (a : Act) (w : World), Clear md ops i oi ls → i ∈ Region.ready md ops ls → YieldsIf P ops S oi v a → S w →
      wpSink P md ops Q S n m (ls.setIfInBounds i true) (a.put oi.dst v) w → wpSink P md ops Q S n (m + 1) ls a w := by
  have hsel := Region.noSelect_spec hs
  intro m
  induction m with
  | zero =>
    intro ls a w _ hr hy hS H
    refine ⟨fun h => absurd hr (by rw [h]; simp), fun j hj => ?_⟩
    by_cases hji : j = i
    · rw [hji]
      exact hy.wpOp hi hS ⟨Or.inr hS, H⟩
    · have h0 := ready_mono hj hji
      rw [H.1] at h0
      cases h0
  | succ m ih =>
    intro ls a w hc hr hy hS H
    refine ⟨fun h => absurd hr (by rw [h]; simp), fun j hj => ?_⟩
    by_cases hji : j = i
    · rw [hji]
      exact hy.wpOp hi hS ⟨Or.inr hS, H⟩
    · have hjn : j ≠ n := fun e => not_ready hw hr (e ▸ hj)
      have h1 := H.2 j (ready_mono hj hji)
      obtain ⟨hjun, oj, hoj, hall⟩ := mem_ready.1 hj
      have hno : ∀ e ∈ oj.after, Region.binds md e = true → e.on ≠ i := by
        intro e he hb hon
        have h2 := hall e he hb
        rw [hon, getD_both (mem_ready.1 hr).1] at h2
        cases h2
      have h3 := wpOp_putIf hoj (hc j oj hoj hji hjun hno) (fun cs b => hsel i oi cs b hi) (fun cs b => hsel j oj cs b hoj) hQ hy h1
      refine wpOp_mono (fun a' w' h4 => ?_) h3
      have hS' : S w' := h4.2.1.resolve_left hjn
      refine ⟨Or.inr hS', ih _ a' w' (hc.next hjun) (ready_mono hr (Ne.symm hji)) h4.1 hS' ?_⟩
      have h5 := h4.2.2
      rw [Array.setIfInBounds_comm _ _ (Ne.symm hji)] at h5
      exact h5

/-- take number i first -/
theorem sink_take {i : Nat} {oi : Oper} {v : Value} {m : Nat} {ls : Array Bool} {a : Act} {w : World} (hi : ops[i]? = some oi) (hs : Region.noSelect ops = true) (hw : Region.waitsFor md ops n i = true)
    (hf : Region.free md ops ls i = true) (hr : (Region.ready md ops ls).contains i = true) (hQ : ∀ c a w, Q (.panic c) (a.put oi.dst v) w → Q (.panic c) a w)
    (hy : YieldsIf P ops S oi v a) (hS : S w) (h : wpSink P md ops Q S n m (ls.setIfInBounds i true) (a.put oi.dst v) w) : wpSink P md ops Q S n (m + 1) ls a w :=
  sink_first hi hs hw hQ m ls a w (Region.free_spec hi hf) (by simpa using hr) hy hS h
/-- one alone may come -/
theorem sink_one {i : Nat} {m : Nat} {ls : Array Bool} {a : Act} {w : World} (hr : Region.ready md ops ls = [i])
    (h : wpOp P ops Q i (fun a' w' => (i = n ∨ S w') ∧ wpSink P md ops Q S n m (ls.setIfInBounds i true) a' w') a w) : wpSink P md ops Q S n (m + 1) ls a w :=
  ⟨fun h0 => absurd (hr ▸ h0) (by simp), fun j hj => by rw [hr, List.mem_singleton] at hj; rw [hj]; exact h⟩
/-- all have come -/
theorem sink_done {m : Nat} {ls : Array Bool} {a : Act} {w : World} (hr : Region.ready md ops ls = []) (h : Q .normal a w) : wpSink P md ops Q S n m ls a w := by
  cases m with
  | zero => exact ⟨hr, h⟩
  | succ m => exact ⟨fun _ => h, fun i hi => by rw [hr] at hi; cases hi⟩
end
end Go.Proofs.YtnnmbpghkflepaaGreatDoor

namespace Go.Proofs.YtnnmbpghkflepaaGreatDoor
open Go

section
variable {P : Program} {ops : Array Oper} {Q : Exit → Act → World → Prop} {md : Region.Mode} {S : World → Prop} {n : Nat}

/-- how many haven't come -/
def unCome (ls : Array Bool) : Nat := ls.toList.countP (fun b => !b)
theorem unCome_pos {ls : Array Bool} {i : Nat} (h : ls.getD i true = false) : 0 < unCome ls ∧ ∃ hi : i < ls.size, ls[i] = false := by
  have hi : i < ls.size := by
    rcases Nat.lt_or_ge i ls.size with h' | h'
    · exact h'
    · simp [Array.getElem?_eq_none h'] at h
  have hv : ls[i] = false := by simpa [hi] using h
  refine ⟨?_, hi, hv⟩
  rw [unCome, List.countP_pos_iff]
  exact ⟨ls[i], by simp, by simp [hv]⟩
theorem unCome_set {ls : Array Bool} {i : Nat} (h : ls.getD i true = false) : unCome (ls.setIfInBounds i true) + 1 = unCome ls := by
  obtain ⟨hp, hi, hv⟩ := unCome_pos h
  have hl : i < ls.toList.length := by simpa using hi
  have hv' : ls.toList[i] = false := by simpa using hv
  rw [unCome, Array.toList_setIfInBounds, List.countP_set hl, hv']
  rw [unCome] at hp
  simp only [Bool.not_false, Bool.not_true, if_true, Bool.false_eq_true, if_false]
  show _ = List.countP (fun b => !b) ls.toList
  omega

/-- each waits for such alone that stand ahead of it -/
def backB (ops : Array Oper) : Bool := (List.range ops.size).all fun i => match ops[i]? with | some o => o.after.all fun e => decide (e.on < i) | none => true

theorem ready_un {i : Nat} {ls : Array Bool} (h : i ∈ Region.ready md ops ls) : ls.getD i true = false := (mem_ready.1 h).1
theorem ready_lt {i : Nat} {ls : Array Bool} (h : i ∈ Region.ready md ops ls) : i < ops.size := by
  obtain ⟨_, o, ho, _⟩ := mem_ready.1 h
  exact (Array.getElem?_eq_some_iff.1 ho).1
theorem ready_dep {i j : Nat} {ls : Array Bool} (hw : Region.waitsFor md ops i j = true) (h : i ∈ Region.ready md ops ls) : ls.getD j false = true := by
  obtain ⟨oj, ho, e, he, hb, hon⟩ := Region.waitsFor_spec hw
  obtain ⟨_, oj', ho', hall⟩ := mem_ready.1 h
  rw [ho] at ho'
  cases ho'
  rw [← hon]
  exact hall e he hb
/-- if none may come all have come -/
theorem all_come {ls : Array Bool} (hb : backB ops = true) (hsz : ls.size = ops.size) (h : Region.ready md ops ls = []) : ∀ i, i < ops.size → ls.getD i false = true := by
  intro i
  induction i using Nat.strongRecOn with
  | _ i ih =>
    intro hi
    have hil : i < ls.size := by omega
    rcases hv : ls[i] with _ | _
    · exfalso
      have hm : i ∈ Region.ready md ops ls := by
        rw [mem_ready]
        refine ⟨by simp [hil, hv], ops[i], by simp [hi], ?_⟩
        intro e he _
        rw [backB, List.all_eq_true] at hb
        have := hb i (by simp [hi])
        simp only [hi, Array.getElem?_eq_getElem, Array.all_eq_true_iff_forall_mem] at this
        have hlt := of_decide_eq_true (this e he)
        exact ih e.on hlt (by omega)
      rw [h] at hm
      cases hm
    · simp [hil, hv]

theorem sink_inv {I : Array Bool → Act → World → Prop} (hb : backB ops = true) (hz : ∀ ls a w, I ls a w → ls.size = ops.size)
    (hI : ∀ i, i < ops.size → ∀ ls a w, I ls a w → i ∈ Region.ready md ops ls → wpOp P ops Q i (fun a' w' => (i = n ∨ S w') ∧ I (ls.setIfInBounds i true) a' w') a w)
    (he : ∀ ls a w, I ls a w → (∀ i, i < ops.size → ls.getD i false = true) → Q .normal a w) :
    ∀ m ls a w, unCome ls ≤ m → I ls a w → wpSink P md ops Q S n m ls a w := by
  intro m
  induction m with
  | zero =>
    intro ls a w hm h
    have h0 : Region.ready md ops ls = [] := by
      rcases hr : Region.ready md ops ls with _ | ⟨i, rest⟩
      · rfl
      · have hi : i ∈ Region.ready md ops ls := by rw [hr]; simp
        have := (unCome_pos (ready_un hi)).1
        omega
    exact ⟨h0, he ls a w h (all_come hb (hz _ _ _ h) h0)⟩
  | succ m ih =>
    intro ls a w hm h
    refine ⟨fun h0 => he ls a w h (all_come hb (hz _ _ _ h) h0), fun i hi => ?_⟩
    have hs := unCome_set (ready_un hi)
    exact wpOp_mono (fun a' w' h' => ⟨h'.1, ih _ a' w' (by omega) h'.2⟩) (hI i (ready_lt hi) ls a w h hi)

/-- take number i first, where S holds behind every operation -/
theorem sink_take0 {i : Nat} {oi : Oper} {v : Value} {m : Nat} {ls : Array Bool} {a : Act} {w : World} (hi : ops[i]? = some oi) (hs : Region.noSelect ops = true) (hw : ops.size ≤ n)
    (hf : Region.free md ops ls i = true) (hr : (Region.ready md ops ls).contains i = true) (hQ : ∀ c a w, Q (.panic c) (a.put oi.dst v) w → Q (.panic c) a w)
    (hy : YieldsIf P ops S oi v a) (hS : S w) (h : wpSink P md ops Q S n m (ls.setIfInBounds i true) (a.put oi.dst v) w) : wpSink P md ops Q S n (m + 1) ls a w := by
  have hsel := Region.noSelect_spec hs
  have hc := Region.free_spec hi hf
  replace hr : i ∈ Region.ready md ops ls := by simpa using hr
  clear hf
  induction m generalizing ls a w with
  | zero =>
    refine ⟨fun h0 => absurd hr (by rw [h0]; simp), fun j hj => ?_⟩
    by_cases hji : j = i
    · rw [hji]
      exact hy.wpOp hi hS ⟨Or.inr hS, h⟩
    · have h0 := ready_mono hj hji
      rw [h.1] at h0
      cases h0
  | succ m ih =>
    refine ⟨fun h0 => absurd hr (by rw [h0]; simp), fun j hj => ?_⟩
    by_cases hji : j = i
    · rw [hji]
      exact hy.wpOp hi hS ⟨Or.inr hS, h⟩
    · have hjn : j ≠ n := fun e => by have := ready_lt hj; omega
      have h1 := h.2 j (ready_mono hj hji)
      obtain ⟨hjun, oj, hoj, hall⟩ := mem_ready.1 hj
      have hno : ∀ e ∈ oj.after, Region.binds md e = true → e.on ≠ i := by
        intro e he hb hon
        have h2 := hall e he hb
        rw [hon, getD_both (mem_ready.1 hr).1] at h2
        cases h2
      have h3 := wpOp_putIf hoj (hc j oj hoj hji hjun hno) (fun cs b => hsel i oi cs b hi) (fun cs b => hsel j oj cs b hoj) hQ hy h1
      refine wpOp_mono (fun a' w' h4 => ?_) h3
      have hS' : S w' := h4.2.1.resolve_left hjn
      refine ⟨Or.inr hS', ih h4.1 hS' ?_ (fun k ok hk hki hun hno => ?_) (ready_mono hr (Ne.symm hji))⟩
      · have h5 := h4.2.2
        rw [Array.setIfInBounds_comm _ _ (Ne.symm hji)] at h5
        exact h5
      · by_cases e : j = k
        · subst e; exact hc j ok hk hki hjun hno
        · exact hc k ok hk hki (by rw [getD_set_ne true e] at hun; exact hun) hno
/-- the same, the place where it lays its value written out -/
theorem sink_take1 {i : Nat} {oi : Oper} {d : Option Tmp} {v : Value} {m : Nat} {ls : Array Bool} {a : Act} {w : World} (hi : ops[i]? = some oi) (hd : oi.dst = d) (hs : Region.noSelect ops = true) (hw : ops.size ≤ n)
    (hf : Region.free md ops ls i = true) (hr : (Region.ready md ops ls).contains i = true) (hQ : ∀ c a w, Q (.panic c) (a.put d v) w → Q (.panic c) a w)
    (hy : YieldsIf P ops S oi v a) (hS : S w) (h : wpSink P md ops Q S n m (ls.setIfInBounds i true) (a.put d v) w) : wpSink P md ops Q S n (m + 1) ls a w := by
  subst hd
  exact sink_take0 hi hs hw hf hr hQ hy hS h
end
end Go.Proofs.YtnnmbpghkflepaaGreatDoor
