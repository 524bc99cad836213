/-
  Put together: Rws, Rec.
-/
import Derived.Test.YthigandmemifoaaGreatDoorP04
import Derived.Test.YthigandmemifoaaGreatDoorP05
import Derived.Laws.AppendOwnNone
namespace Go.Proofs.YthigandmemifoaaGreatDoor
open Go.RowKit Go.PlainAid
set_option maxRecDepth 100000

theorem info24 : (Tryz.prog.info? 24).map (fun i => (i.zero, i.size, i.bytes)) = some (some (.slice none 0 0), 1, 24) := by kernel_rfl

/-- patterns, each in a block of segments, in a row of the call's own -/
def OwnL (B : Nat) (w0 : World) (v : Value) (ls : List (List Sg)) (w : World) : Prop :=
  ∃ us : List Value, w.ownsRow B 24 1 v ls.length us ∧ Below B w0 w ∧ B ≤ w.heap.size ∧ ∀ i, i < ls.length → ∃ u, us[i]? = some u ∧ Gt w u (ls.getD i default)

theorem Gt.shape {w : World} {v : Value} {l : List Sg} (h : Gt w v l) : ∃ A n c, v = .slice A n c := h.1.shape
theorem Gt.grown {w w' : World} {v : Value} {l : List Sg} {row : Option Nat} (h : Gt w v l) (hg : w.grownBy w' row) (hrow : ∀ g, row = some g → ∃ cur fz, w.heap[g]? = some (.cells cur 24 fz)) : Gt w' v l := by
  have key : ∀ b o n c, v = .slice (some ⟨b, o, none⟩) n c → w'.heap[b]? = w.heap[b]? := by
    intro b o n c e
    obtain ⟨cur, fz, hk⟩ := h.2 b o n c e
    refine hg.block b (blk_lt hk) ?_
    intro e2
    obtain ⟨cur', fz', hk'⟩ := hrow b e2.symm
    rw [hk] at hk'
    cases hk'
  refine ⟨?_, fun b o n c e => ?_⟩
  · obtain ⟨A, cap, e, h2, h3, h4⟩ := h.1
    refine ⟨A, cap, e, h2, h3, fun i hi => ?_⟩
    obtain ⟨b, o, ha, hc, hd⟩ := h4 i hi
    have hk := key b o l.length cap (by rw [e, ha])
    exact ⟨b, o, ha, by rw [World.cell?_of_block (w := w) hk]; exact hc, by rw [World.cell?_of_block (w := w) hk]; exact hd⟩
  · obtain ⟨cur, fz, hk⟩ := h.2 b o n c e
    exact ⟨cur, fz, (key b o n c e).trans hk⟩
section
variable {B : Nat} {w0 : World} {v : Value} {w : World} {ls : List (List Sg)}
theorem owns26 {n : Nat} {us : List Value} (h : w.ownsRow B 24 1 v n us) : ∀ g, v.ownBlock = some g → ∃ cur fz, w.heap[g]? = some (.cells cur 24 fz) := by
  intro g hg
  obtain ⟨_, ⟨rfl, _⟩ | ⟨g', cap, cur, rfl, _, hk, _⟩⟩ := h
  · cases hg
  · cases hg
    exact ⟨cur, _, hk⟩
theorem OwnL.call {w' : World} (h : OwnL B w0 v ls w) (hb : Below w.heap.size w w') : OwnL B w0 v ls w' := by
  obtain ⟨us, h1, h2, h3, h4⟩ := h
  refine ⟨us, owns_call h1 hb, h2.trans (hb.mono h3), by have := hb.size; omega, fun i hi => ?_⟩
  obtain ⟨u, hu, hg⟩ := h4 i hi
  exact ⟨u, hu, hg.call hb⟩
theorem OwnL.alloc (h : OwnL B w0 v ls w) (o : Obj) : OwnL B w0 v ls (w.alloc o) := h.call ((Below.refl _ _).alloc (Nat.le_refl _) o)
theorem OwnL.below (h : OwnL B w0 v ls w) : Below B w0 w := by obtain ⟨_, _, h2, _⟩ := h; exact h2
theorem OwnL.size (h : OwnL B w0 v ls w) : B ≤ w.heap.size := by obtain ⟨_, _, _, h3, _⟩ := h; exact h3
theorem nilL (B : Nat) (w0 w : World) (hb : Below B w0 w) (hB : B ≤ w.heap.size) : OwnL B w0 (.slice none 0 0) [] w := ⟨[], World.ownsRow_nil _ _ _ _, hb, hB, fun i hi => by simp at hi⟩
theorem empL (B : Nat) (w0 w : World) (hb : Below B w0 w) (hB : B ≤ w.heap.size) : OwnL B w0 (.slice (some ⟨w.heap.size, 0, none⟩) 0 0) [] (w.alloc (.cells #[] 24 (0, 0))) :=
  ⟨[], World.ownsRow_made w #[] 0 hB (by unfold maxLen; omega) (by simp), hb.alloc hB _, by simp; omega, fun i hi => by simp at hi⟩
/-- read -/
theorem OwnL.gss (h : OwnL B w0 v ls w) : Gss w v ls := by
  obtain ⟨us, h1, _, _, h4⟩ := h
  have hc := @World.ownsRow.cells _ _ _ _ _ _ _ h1
  obtain ⟨hl, ⟨rfl, h0⟩ | ⟨g, cap, cur, rfl, _, _, h5, _⟩⟩ := h1
  · obtain rfl : ls = [] := List.eq_nil_of_length_eq_zero h0
    exact gss_nil _
  · refine ⟨some ⟨g, 0, none⟩, cap, rfl, h5, (fun h => by cases h), fun i hi => ?_⟩
    obtain ⟨u, hu, hg⟩ := h4 i hi
    have := hc rfl i u hu
    rw [add_lit'] at this
    exact ⟨g, 0, u, rfl, this, hg.1⟩
/-- read, each in a block of segments -/
def Gts (w : World) (v : Value) (ls : List (List Sg)) : Prop :=
  ∃ A cap, v = .slice A ls.length cap ∧ ls.length ≤ cap ∧ (A = none → cap = 0) ∧ ∀ i, i < ls.length → ∃ b o u, A = some ⟨b, o, none⟩ ∧ w.cell? ⟨b, o + i, none⟩ = some u ∧ Gt w u (ls.getD i default)
theorem OwnL.gts (h : OwnL B w0 v ls w) : Gts w v ls := by
  obtain ⟨us, h1, _, _, h4⟩ := h
  have hc := @World.ownsRow.cells _ _ _ _ _ _ _ h1
  obtain ⟨hl, ⟨rfl, h0⟩ | ⟨g, cap, cur, rfl, _, _, h5, _⟩⟩ := h1
  · obtain rfl : ls = [] := List.eq_nil_of_length_eq_zero h0
    exact ⟨none, 0, rfl, by simp, fun _ => rfl, fun i hi => by simp at hi⟩
  · refine ⟨some ⟨g, 0, none⟩, cap, rfl, h5, (fun h => by cases h), fun i hi => ?_⟩
    obtain ⟨u, hu, hg⟩ := h4 i hi
    have := hc rfl i u hu
    rw [add_lit'] at this
    exact ⟨g, 0, u, rfl, this, hg⟩
theorem Gts.call {w' : World} (h : Gts w v ls) (hb : Below w.heap.size w w') : Gts w' v ls := by
  obtain ⟨A, cap, h1, h2, h3, h4⟩ := h
  refine ⟨A, cap, h1, h2, h3, fun i hi => ?_⟩
  obtain ⟨b, o, u, ha, hc, hd⟩ := h4 i hi
  exact ⟨b, o, u, ha, by rw [hb.cell (World.block_lt_of_cell? w _ hc)]; exact hc, hd.call hb⟩
theorem Gts.gss (h : Gts w v ls) : Gss w v ls := by
  obtain ⟨A, cap, h1, h2, h3, h4⟩ := h
  refine ⟨A, cap, h1, h2, h3, fun i hi => ?_⟩
  obtain ⟨b, o, u, ha, hc, hd⟩ := h4 i hi
  exact ⟨b, o, u, ha, hc, hd.1⟩
theorem OwnL.shape (h : OwnL B w0 v ls w) : ∃ A n c, v = .slice A n c := h.gss.shape

/-- append(v, x...), x some of them -/
theorem wp_appL {o : Oper} {a : Act} {K : Act → World → Prop} {Q : Exit → Act → World → Prop} (s x : Operand)
    (ho : o.op = .call { callee := .builtin .append, args := #[s, x], argTypes := #[103, 103] })
    (hs : a.eval s = v) (hown : OwnL B w0 v ls w) (hn : ls.length ≤ 1000)
    (A : Option Addr) (m c : Nat) (ms : List (List Sg)) (hx : a.eval x = .slice A m c) (hm : ms.length = m) (hm1 : m ≤ 1000) (hmc : m ≤ c) (hA : A = none → c = 0)
    (hb : ∀ i, i < m → ∃ b off u, A = some ⟨b, off, none⟩ ∧ w.cell? ⟨b, off + i, none⟩ = some u ∧ Gt w u (ms.getD i default))
    (h : ∀ v' w', OwnL B w0 v' (ls ++ ms) w' → w.grownBy w' v.ownBlock → K (a.put o.dst v') w') : o.wp Tryz.prog a w K Q := by
  obtain ⟨us, h1, h2, h3, h4⟩ := hown
  obtain ⟨i0, hi, hz0, hz1, hz2⟩ := info_parts info24
  cases A with
  | none =>
    have hc0 := hA rfl
    subst hc0
    obtain rfl : m = 0 := by omega
    obtain rfl : ms = [] := List.eq_nil_of_length_eq_zero hm
    have hr := run_append_owned_none (P := Tryz.prog) (w := w) B 103 o.type 24 i0 1 Tryz.underlying103 hi v _ _ h1
    unfold Oper.wp execOp
    simp only [ho, resolve, invoke, builtin, Sem.run_bind, Sem.run_pure, Result.andThen_ok, List.map_toArray, List.map_cons, List.map_nil, hs, hx, hr]
    rw [List.append_nil] at h
    exact h v w ⟨us, h1, h2, h3, h4⟩ (World.grownBy.refl _ _)
  | some ad =>
    have hch : ∀ i, i < m → ∃ u, w.cell? (ad.add i) = some u ∧ Gt w u (ms.getD i default) := by
      intro i hi
      obtain ⟨b, off, u, e, hc, hg⟩ := hb i hi
      cases e
      exact ⟨u, by rw [Addr.add_lit]; exact hc, hg⟩
    have hch' : ∃ f : Nat → Value, ∀ i, i < m → w.cell? (ad.add i) = some (f i) ∧ Gt w (f i) (ms.getD i default) := by
      refine ⟨fun i => if hi : i < m then (hch i hi).choose else default, fun i hi => ?_⟩
      simp only [hi, dif_pos]
      exact (hch i hi).choose_spec
    obtain ⟨f, hf⟩ := hch'
    have hlen : ((List.range m).map f).length = m := by simp
    have hr := run_append_own_at (P := Tryz.prog) w B 103 o.type 24 i0 (.slice none 0 0) 1 24 Tryz.underlying103 hi hz0 hz1 hz2 rfl (by omega) v ls.length _ h1 ad m c ((List.range m).map f) (by rw [hlen]; omega) (by
      intro j u hu
      have hj : j < m := by
        have := (List.getElem?_eq_some_iff.1 hu).1
        rwa [hlen] at this
      rw [List.getElem?_map, List.getElem?_range hj] at hu
      simp only [Option.map_some, Option.some.injEq] at hu
      rw [← hu]
      exact (hf j hj).1) (by
      intro u hu
      rw [List.mem_map] at hu
      obtain ⟨i, hi', rfl⟩ := hu
      obtain ⟨A', n', c', e⟩ := (hf i (by simpa using hi')).2.shape
      rw [e]
      rfl) (by unfold maxLen; omega) (by omega) h3
    obtain ⟨v', w', hr, g2, g3, _, g5⟩ := hr
    unfold Oper.wp execOp
    simp only [ho, resolve, invoke, builtin, Sem.run_bind, Sem.run_pure, Result.andThen_ok, List.map_toArray, List.map_cons, List.map_nil, hs, hx, hr]
    have hul : us.length = ls.length := by have := h1.1; omega
    refine h v' w' ⟨us ++ (List.range m).map f, ?_, h2.grown g3 h3 (fun k hk => (h1.lt k hk).1), by have := g3.size; omega, fun i hi => ?_⟩ g3
    · rw [List.length_append, hm]
      exact g2
    · rw [List.length_append, hm] at hi
      by_cases hil : i < ls.length
      · obtain ⟨u, hu, hg⟩ := h4 i hil
        refine ⟨u, by rw [List.getElem?_append_left (by omega)]; exact hu, ?_⟩
        have e : (ls ++ ms).getD i default = ls.getD i default := by simp only [List.getD]; rw [List.getElem?_append_left hil]
        rw [e]
        exact hg.grown g3 (owns26 h1)
      · have him : i - ls.length < m := by omega
        refine ⟨f (i - ls.length), ?_, ?_⟩
        · rw [List.getElem?_append_right (by omega), hul, List.getElem?_map, List.getElem?_range him]
          rfl
        · have e : (ls ++ ms).getD i default = ms.getD (i - ls.length) default := by simp only [List.getD]; rw [List.getElem?_append_right (by omega)]
          rw [e]
          exact (hf _ him).2.grown g3 (owns26 h1)
theorem wpList_appL {ops : Array Oper} {rest : List Oper} {o : Oper} {a : Act} {Q : Exit → Act → World → Prop} (hgd : o.guard = none) (s x : Operand)
    (ho : o.op = .call { callee := .builtin .append, args := #[s, x], argTypes := #[103, 103] })
    (hs : a.eval s = v) (hown : OwnL B w0 v ls w) (hn : ls.length ≤ 1000)
    (A : Option Addr) (m c : Nat) (ms : List (List Sg)) (hx : a.eval x = .slice A m c) (hm : ms.length = m) (hm1 : m ≤ 1000) (hmc : m ≤ c) (hA : A = none → c = 0)
    (hb : ∀ i, i < m → ∃ b off u, A = some ⟨b, off, none⟩ ∧ w.cell? ⟨b, off + i, none⟩ = some u ∧ Gt w u (ms.getD i default))
    (h : ∀ v' w', OwnL B w0 v' (ls ++ ms) w' → w.grownBy w' v.ownBlock → wpList Tryz.prog ops Q rest (a.put o.dst v') w') : wpList Tryz.prog ops Q (o :: rest) a w :=
  wpList_plain hgd fun _ hK => wp_appL s x ho hs hown hn A m c ms hx hm hm1 hmc hA hb fun v' w' h2 h3 => hK _ _ (h v' w' h2 h3)
/-- one new one -/
theorem one_src {u : Value} {l : List Sg} {b : Nat} (hk : w.heap[b]? = some (.cells #[u] 24 (0, 0))) (hu : Gt w u l) : ∀ i, i < 1 → ∃ b' off u', (some (⟨b, 0, none⟩ : Addr)) = some ⟨b', off, none⟩ ∧ w.cell? ⟨b', off + i, none⟩ = some u' ∧ Gt w u' ([l].getD i default) := by
  intro i hi
  obtain rfl : i = 0 := by omega
  exact ⟨b, 0, u, rfl, by rw [blk_cell hk]; rfl, hu⟩
end

/-- append(v, x...) of segments, x perhaps none -/
theorem wp_fewG {o : Oper} {a : Act} {K : Act → World → Prop} {Q : Exit → Act → World → Prop} (w : World) (s x : Operand)
    (ho : o.op = .call { callee := .builtin .append, args := #[s, x], argTypes := #[24, 24] })
    (B : Nat) (w0 : World) (v : Value) (hs : a.eval s = v) (hown : OwnG B w0 v [] w)
    (A : Option Addr) (m c : Nat) (ys : List Sg) (hx : a.eval x = .slice A m c) (hm : ys.length = m) (hm1 : m ≤ 10) (hmc : m ≤ c) (hA : A = none → c = 0)
    (hb : ∀ i, i < m → ∃ b off, A = some ⟨b, off, none⟩ ∧ w.cell? ⟨b, off + i * 2, none⟩ = some (.int .i64 (ys.getD i default).1) ∧ w.cell? ⟨b, off + i * 2 + 1, none⟩ = some (.string (ys.getD i default).2))
    (h : ∀ v' w', OwnG B w0 v' ys w' → w.grownBy w' v.ownBlock → K (a.put o.dst v') w') : o.wp Tryz.prog a w K Q := by
  cases A with
  | none =>
    have hc0 := hA rfl
    subst hc0
    obtain rfl : m = 0 := by omega
    obtain rfl : ys = [] := List.eq_nil_of_length_eq_zero hm
    obtain ⟨i0, hi, hz0, hz1, hz2⟩ := info_parts info28
    have hr := run_append_owned_none (P := Tryz.prog) (w := w) B 24 o.type 28 i0 2 Tryz.underlying24 hi v _ _ hown.1
    unfold Oper.wp execOp
    simp only [ho, resolve, invoke, builtin, Sem.run_bind, Sem.run_pure, Result.andThen_ok, List.map_toArray, List.map_cons, List.map_nil, hs, hx, hr]
    exact h v w hown (World.grownBy.refl _ _)
  | some ad =>
    refine wp_appG w s x ho B w0 v [] hs hown (by simp) ad m c ys hx hm hm1 ?_ (fun v' w' h2 h3 _ => h v' w' h2 h3)
    intro j u hu
    have hj : j < m * 2 := by
      have := (List.getElem?_eq_some_iff.1 hu).1
      rw [sgC_len, hm] at this
      exact this
    obtain ⟨b, off, e, c1, c2⟩ := hb (j / 2) (by omega)
    cases e
    obtain ⟨k1, k2⟩ := sgC_at ys (j / 2) (by omega)
    rw [Addr.add_lit]
    rcases (show j = j / 2 * 2 ∨ j = j / 2 * 2 + 1 by omega) with e | e
    · rw [e, k1] at hu
      rw [e, c1]
      exact hu
    · rw [e, k2] at hu
      rw [e, ← Nat.add_assoc, c2]
      exact hu
theorem wpList_fewG {ops : Array Oper} {rest : List Oper} {o : Oper} {a : Act} {Q : Exit → Act → World → Prop} (w : World) (hgd : o.guard = none) (s x : Operand)
    (ho : o.op = .call { callee := .builtin .append, args := #[s, x], argTypes := #[24, 24] })
    (B : Nat) (w0 : World) (v : Value) (hs : a.eval s = v) (hown : OwnG B w0 v [] w)
    (A : Option Addr) (m c : Nat) (ys : List Sg) (hx : a.eval x = .slice A m c) (hm : ys.length = m) (hm1 : m ≤ 10) (hmc : m ≤ c) (hA : A = none → c = 0)
    (hb : ∀ i, i < m → ∃ b off, A = some ⟨b, off, none⟩ ∧ w.cell? ⟨b, off + i * 2, none⟩ = some (.int .i64 (ys.getD i default).1) ∧ w.cell? ⟨b, off + i * 2 + 1, none⟩ = some (.string (ys.getD i default).2))
    (h : ∀ v' w', OwnG B w0 v' ys w' → w.grownBy w' v.ownBlock → wpList Tryz.prog ops Q rest (a.put o.dst v') w') : wpList Tryz.prog ops Q (o :: rest) a w :=
  wpList_plain hgd fun _ hK => wp_fewG w s x ho B w0 v hs hown A m c ys hx hm hm1 hmc hA hb fun v' w' h2 h3 => hK _ _ (h v' w' h2 h3)
end Go.Proofs.YthigandmemifoaaGreatDoor

namespace Go.Proofs.YthigandmemifoaaGreatDoor
open Go.RowKit Go.PlainAid
set_option maxRecDepth 100000

/-- a record: its name, its parent, where its segments lie, what they are, and the rest -/
structure Rc where
  n : ByteArray
  p : Int
  u : Value
  l : List Sg
  c : Int
  k : Bool
  rk : Int
  rf : Int
  rt : ByteArray
instance : Inhabited Rc := ⟨⟨⟨#[]⟩, 0, .slice none 0 0, [], 0, false, 0, 0, ⟨#[]⟩⟩⟩
def rcC (r : Rc) : List Value := [.string r.n, .int .i64 r.p, r.u, .int .i64 r.c, .bool r.k, .int .i64 r.rk, .int .i64 r.rf, .string r.rt]
theorem info26 : (Tryz.prog.info? 26).map (fun i => (i.zero, i.size, i.bytes)) = some (some (.agg #[.string ⟨#[]⟩, .int .i64 0, .slice none 0 0, .int .i64 0, .bool false, .int .i64 0, .int .i64 0, .string ⟨#[]⟩]), 8, 96) := by kernel_rfl
theorem rcC_len (l : List Rc) : (l.flatMap rcC).length = l.length * 8 := by
  induction l with
  | nil => rfl
  | cons p l ih => simp [rcC] at ih ⊢; omega
theorem rcC_at (l : List Rc) (i j : Nat) (h : i < l.length) (hj : j < 8) : (l.flatMap rcC)[i * 8 + j]? = (rcC (l.getD i default))[j]? := by
  induction l generalizing i with
  | nil => simp at h
  | cons p l ih =>
    have e : (p :: l).flatMap rcC = rcC p ++ l.flatMap rcC := rfl
    have hl : (rcC p).length = 8 := rfl
    rw [e]
    cases i with
    | zero =>
      rw [List.getElem?_append_left (by rw [hl]; omega)]
      simp
    | succ i =>
      rw [List.getElem?_append_right (by rw [hl]; omega)]
      have e2 : (i + 1) * 8 + j - (rcC p).length = i * 8 + j := by rw [hl]; omega
      rw [e2, ih i (by simpa using h)]
      simp

/-- the eight cells of a record -/
structure RcAt (w : World) (b o : Nat) (r : Rc) : Prop where
  c0 : w.cell? ⟨b, o, none⟩ = some (.string r.n)
  c1 : w.cell? ⟨b, o + 1, none⟩ = some (.int .i64 r.p)
  c2 : w.cell? ⟨b, o + 2, none⟩ = some r.u
  c3 : w.cell? ⟨b, o + 3, none⟩ = some (.int .i64 r.c)
  c4 : w.cell? ⟨b, o + 4, none⟩ = some (.bool r.k)
  c5 : w.cell? ⟨b, o + 5, none⟩ = some (.int .i64 r.rk)
  c6 : w.cell? ⟨b, o + 6, none⟩ = some (.int .i64 r.rf)
  c7 : w.cell? ⟨b, o + 7, none⟩ = some (.string r.rt)
theorem RcAt.of {w : World} {b o : Nat} {r : Rc} (h : ∀ j, j < 8 → w.cell? ⟨b, o + j, none⟩ = (rcC r)[j]?) : RcAt w b o r :=
  ⟨h 0 (by omega), h 1 (by omega), h 2 (by omega), h 3 (by omega), h 4 (by omega), h 5 (by omega), h 6 (by omega), h 7 (by omega)⟩
theorem RcAt.to {w : World} {b o : Nat} {r : Rc} (h : RcAt w b o r) : ∀ j u, (rcC r)[j]? = some u → w.cell? ⟨b, o + j, none⟩ = some u := by
  intro j u hu
  have hj : j < 8 := (List.getElem?_eq_some_iff.1 hu).1
  rw [← hu]
  rcases (show j = 0 ∨ j = 1 ∨ j = 2 ∨ j = 3 ∨ j = 4 ∨ j = 5 ∨ j = 6 ∨ j = 7 by omega) with rfl | rfl | rfl | rfl | rfl | rfl | rfl | rfl
  · exact h.c0
  · exact h.c1
  · exact h.c2
  · exact h.c3
  · exact h.c4
  · exact h.c5
  · exact h.c6
  · exact h.c7
theorem RcAt.call {w w' : World} {b o : Nat} {r : Rc} (h : RcAt w b o r) (hb : Below w.heap.size w w') : RcAt w' b o r := by
  have k : ∀ (p : Addr) (v : Value), w.cell? p = some v → w'.cell? p = some v := fun p v hc => by rw [hb.cell (World.block_lt_of_cell? w _ hc)]; exact hc
  exact ⟨k _ _ h.c0, k _ _ h.c1, k _ _ h.c2, k _ _ h.c3, k _ _ h.c4, k _ _ h.c5, k _ _ h.c6, k _ _ h.c7⟩

/-- the slice holds these records -/
def Rs (w : World) (v : Value) (l : List Rc) : Prop :=
  ∃ A cap, v = .slice A l.length cap ∧ l.length ≤ cap ∧ (A = none → cap = 0) ∧ (∀ i, i < l.length → ∃ b o, A = some ⟨b, o, none⟩ ∧ RcAt w b (o + i * 8) (l.getD i default)) ∧ ∀ r ∈ l, Gs w r.u r.l
theorem Rs.call {w w' : World} {v : Value} {l : List Rc} (h : Rs w v l) (hb : Below w.heap.size w w') : Rs w' v l := by
  obtain ⟨A, cap, h1, h2, h3, h4, h5⟩ := h
  refine ⟨A, cap, h1, h2, h3, fun i hi => ?_, fun r hr => (h5 r hr).call hb⟩
  obtain ⟨b, o, ha, hc⟩ := h4 i hi
  exact ⟨b, o, ha, hc.call hb⟩
theorem Rs.shape {w : World} {v : Value} {l : List Rc} (h : Rs w v l) : ∃ A n c, v = .slice A n c := by
  obtain ⟨A, cap, e, _⟩ := h
  exact ⟨_, _, _, e⟩
theorem Rs.len {w : World} {v : Value} {l : List Rc} (h : Rs w v l) : ∃ A c, v = .slice A l.length c := by
  obtain ⟨A, cap, e, _⟩ := h
  exact ⟨_, _, e⟩
theorem Rs.at {w : World} {A : Option Addr} {n c : Nat} {l : List Rc} (h : Rs w (.slice A n c) l) (i : Nat) (hi : i < l.length) : ∃ b o, A = some ⟨b, o, none⟩ ∧ RcAt w b (o + i * 8) (l.getD i default) ∧ Gs w (l.getD i default).u (l.getD i default).l := by
  obtain ⟨A', cap, h1, h2, h3, h4, h5⟩ := h
  cases h1
  obtain ⟨b, o, ha, hc⟩ := h4 i hi
  exact ⟨b, o, ha, hc, h5 _ (getD_mem l i hi)⟩
theorem rs_nil (w : World) : Rs w (.slice none 0 0) [] := ⟨none, 0, rfl, by simp, fun _ => rfl, fun i hi => by simp at hi, fun r hr => by simp at hr⟩
/-- the first some of a slice -/
theorem Rs.take {w : World} {A : Option Addr} {n c : Nat} {l : List Rc} (h : Rs w (.slice A n c) l) (k : Nat) (hk : k ≤ l.length) : Rs w (.slice A k c) (l.take k) := by
  obtain ⟨A', cap, h1, h2, h3, h4, h5⟩ := h
  cases h1
  have hl : (l.take k).length = k := by rw [List.length_take]; omega
  refine ⟨A, c, by rw [hl], by rw [hl]; omega, h3, fun i hi => ?_, fun r hr => h5 r (List.mem_of_mem_take hr)⟩
  rw [hl] at hi
  obtain ⟨b, o, ha, hc⟩ := h4 i (by omega)
  refine ⟨b, o, ha, ?_⟩
  have e : (l.take k).getD i default = l.getD i default := by simp only [List.getD]; rw [List.getElem?_take_of_lt hi]
  rw [e]
  exact hc

theorem Gt.grown2 {w w' : World} {v : Value} {l : List Sg} {row : Option Nat} (h : Gt w v l) (hg : w.grownBy w' row) (hrow : ∀ g, row = some g → ∃ cur t fz, w.heap[g]? = some (.cells cur t fz) ∧ t ≠ 28) : Gt w' v l := by
  have key : ∀ b o n c, v = .slice (some ⟨b, o, none⟩) n c → w'.heap[b]? = w.heap[b]? := by
    intro b o n c e
    obtain ⟨cur, fz, hk⟩ := h.2 b o n c e
    refine hg.block b (blk_lt hk) ?_
    intro e2
    obtain ⟨cur', t, fz', hk', ht⟩ := hrow b e2.symm
    rw [hk] at hk'
    cases hk'
    exact ht rfl
  refine ⟨?_, fun b o n c e => ?_⟩
  · obtain ⟨A, cap, e, h2, h3, h4⟩ := h.1
    refine ⟨A, cap, e, h2, h3, fun i hi => ?_⟩
    obtain ⟨b, o, ha, hc, hd⟩ := h4 i hi
    have hk := key b o l.length cap (by rw [e, ha])
    exact ⟨b, o, ha, by rw [World.cell?_of_block (w := w) hk]; exact hc, by rw [World.cell?_of_block (w := w) hk]; exact hd⟩
  · obtain ⟨cur, fz, hk⟩ := h.2 b o n c e
    exact ⟨cur, fz, (key b o n c e).trans hk⟩
theorem gt_nil (w : World) : Gt w (.slice none 0 0) [] := ⟨gs_nil w, fun b o n c e => by cases e⟩

/-- records in a row of the call's own, their segments each in a block of segments -/
def OwnR (B : Nat) (w0 : World) (v : Value) (xs : List Rc) (w : World) : Prop :=
  w.ownsRow B 26 8 v xs.length (xs.flatMap rcC) ∧ Below B w0 w ∧ B ≤ w.heap.size ∧ ∀ r ∈ xs, Gt w r.u r.l
section
variable {B : Nat} {w0 : World} {v : Value} {w : World} {xs : List Rc}
theorem owns59 {n : Nat} {us : List Value} (h : w.ownsRow B 26 8 v n us) : ∀ g, v.ownBlock = some g → ∃ cur t fz, w.heap[g]? = some (.cells cur t fz) ∧ t ≠ 28 := by
  intro g hg
  obtain ⟨_, ⟨rfl, _⟩ | ⟨g', cap, cur, rfl, _, hk, _⟩⟩ := h
  · cases hg
  · cases hg
    exact ⟨cur, _, _, hk, by decide⟩
theorem OwnR.call {w' : World} (h : OwnR B w0 v xs w) (hb : Below w.heap.size w w') : OwnR B w0 v xs w' :=
  ⟨owns_call h.1 hb, h.2.1.trans (hb.mono h.2.2.1), by have := hb.size; have := h.2.2.1; omega, fun r hr => (h.2.2.2 r hr).call hb⟩
theorem OwnR.alloc (h : OwnR B w0 v xs w) (o : Obj) : OwnR B w0 v xs (w.alloc o) := h.call ((Below.refl _ _).alloc (Nat.le_refl _) o)
theorem OwnR.below (h : OwnR B w0 v xs w) : Below B w0 w := h.2.1
theorem OwnR.size (h : OwnR B w0 v xs w) : B ≤ w.heap.size := h.2.2.1
theorem nilR (B : Nat) (w0 w : World) (hb : Below B w0 w) (hB : B ≤ w.heap.size) : OwnR B w0 (.slice none 0 0) [] w := ⟨World.ownsRow_nil _ _ _ _, hb, hB, fun r hr => by simp at hr⟩
theorem empR (B : Nat) (w0 w : World) (hb : Below B w0 w) (hB : B ≤ w.heap.size) : OwnR B w0 (.slice (some ⟨w.heap.size, 0, none⟩) 0 0) [] (w.alloc (.cells #[] 26 (0, 0))) :=
  ⟨World.ownsRow_made w #[] 0 hB (by unfold maxLen; omega) (by simp), hb.alloc hB _, by simp; omega, fun r hr => by simp at hr⟩
theorem OwnR.rs (h : OwnR B w0 v xs w) : Rs w v xs := by
  obtain ⟨h1, _, _, h4⟩ := h
  have hc := @World.ownsRow.cells _ _ _ _ _ _ _ h1
  obtain ⟨hl, ⟨rfl, h0⟩ | ⟨g, cap, cur, rfl, _, _, h5, _⟩⟩ := h1
  · obtain rfl : xs = [] := List.eq_nil_of_length_eq_zero h0
    exact rs_nil _
  · refine ⟨some ⟨g, 0, none⟩, cap, rfl, h5, (fun h => by cases h), fun i hi => ⟨g, 0, rfl, RcAt.of fun j hj => ?_⟩, fun r hr => (h4 r hr).1⟩
    have h8 : j < (rcC (xs.getD i default)).length := hj
    have e := rcC_at xs i j hi hj
    rw [List.getElem?_eq_getElem h8] at e
    have := hc rfl (i * 8 + j) _ e
    rw [add_lit', ← Nat.add_assoc] at this
    rw [this, List.getElem?_eq_getElem h8]
theorem OwnR.shape (h : OwnR B w0 v xs w) : ∃ A n c, v = .slice A n c := h.rs.shape

/-- the records hold values of one cell -/
def OneR (ys : List Rc) : Prop := ∀ r ∈ ys, r.u.oneCell' = true
theorem one_of {ys : List Rc} {w : World} (h : ∀ r ∈ ys, Gs w r.u r.l) : OneR ys := by
  intro r hr
  obtain ⟨A, n, c, e⟩ := (h r hr).shape
  rw [e]
  rfl
theorem rcC_one {ys : List Rc} (h : OneR ys) : ∀ u ∈ ys.flatMap rcC, u.oneCell' = true := by
  intro u hu
  simp only [List.mem_flatMap, rcC] at hu
  obtain ⟨p, hp, hu⟩ := hu
  have := h p hp
  simp at hu
  rcases hu with rfl | rfl | rfl | rfl | rfl | rfl | rfl | rfl
  all_goals first | rfl | exact this

/-- append(v, x...) of records -/
theorem wp_appR {o : Oper} {a : Act} {K : Act → World → Prop} {Q : Exit → Act → World → Prop} (s x : Operand)
    (ho : o.op = .call { callee := .builtin .append, args := #[s, x], argTypes := #[29, 29] })
    (hs : a.eval s = v) (hown : OwnR B w0 v xs w) (hn : xs.length ≤ 1000)
    (ad : Addr) (m c : Nat) (ys : List Rc) (hx : a.eval x = .slice (some ad) m c) (hm : ys.length = m) (hm1 : m ≤ 1000) (hb : ∀ j u, (ys.flatMap rcC)[j]? = some u → w.cell? (ad.add j) = some u) (hy : ∀ r ∈ ys, Gt w r.u r.l)
    (h : ∀ v' w', OwnR B w0 v' (xs ++ ys) w' → w.grownBy w' v.ownBlock → v'.ownBlock = v.ownBlock ∨ v'.ownBlock = some w.heap.size → K (a.put o.dst v') w') : o.wp Tryz.prog a w K Q := by
  obtain ⟨i0, hi, hz0, hz1, hz2⟩ := info_parts info26
  obtain ⟨h1, h2, h3, h4⟩ := hown
  have hr := run_append_own_at (P := Tryz.prog) w B 29 o.type 26 i0 (.agg #[.string ⟨#[]⟩, .int .i64 0, .slice none 0 0, .int .i64 0, .bool false, .int .i64 0, .int .i64 0, .string ⟨#[]⟩]) 8 96 Tryz.underlying29 hi hz0 hz1 hz2 rfl (by omega) v xs.length _ h1 ad m c (ys.flatMap rcC) (by rw [rcC_len, hm]) hb (rcC_one (one_of fun r hr => (hy r hr).1)) (by unfold maxLen; omega) (by omega) h3
  obtain ⟨v', w', hr, g2, g3, _, g5⟩ := hr
  unfold Oper.wp execOp
  simp only [ho, resolve, invoke, builtin, Sem.run_bind, Sem.run_pure, Result.andThen_ok, List.map_toArray, List.map_cons, List.map_nil, hs, hx, hr]
  refine h v' w' ⟨?_, h2.grown g3 h3 (fun k hk => (h1.lt k hk).1), by have := g3.size; omega, fun r hr => ?_⟩ g3 g5
  · rw [List.length_append, List.flatMap_append, hm]
    exact g2
  · rw [List.mem_append] at hr
    rcases hr with hr | hr
    · exact (h4 r hr).grown2 g3 (owns59 h1)
    · exact (hy r hr).grown2 g3 (owns59 h1)
theorem wpList_appR {ops : Array Oper} {rest : List Oper} {o : Oper} {a : Act} {Q : Exit → Act → World → Prop} (hgd : o.guard = none) (s x : Operand)
    (ho : o.op = .call { callee := .builtin .append, args := #[s, x], argTypes := #[29, 29] })
    (hs : a.eval s = v) (hown : OwnR B w0 v xs w) (hn : xs.length ≤ 1000)
    (b m c : Nat) (ys : List Rc) (hx : a.eval x = .slice (some ⟨b, 0, none⟩) m c) (hm : ys.length = m) (hm1 : m ≤ 1000) (hb : w.heap[b]? = some (.cells (ys.flatMap rcC).toArray 26 (0, 0))) (hy : ∀ r ∈ ys, Gt w r.u r.l)
    (h : ∀ v' w', OwnR B w0 v' (xs ++ ys) w' → w.grownBy w' v.ownBlock → v'.ownBlock = v.ownBlock ∨ v'.ownBlock = some w.heap.size → wpList Tryz.prog ops Q rest (a.put o.dst v') w') : wpList Tryz.prog ops Q (o :: rest) a w :=
  wpList_plain hgd fun _ hK => wp_appR s x ho hs hown hn ⟨b, 0, none⟩ m c ys hx hm hm1 (World.news_of_block hb) hy fun v' w' h2 h3 h4 => hK _ _ (h v' w' h2 h3 h4)
end

/-- append(v, x...) of segments, x perhaps none -/
theorem wp_catG {o : Oper} {a : Act} {K : Act → World → Prop} {Q : Exit → Act → World → Prop} (w : World) (s x : Operand)
    (ho : o.op = .call { callee := .builtin .append, args := #[s, x], argTypes := #[24, 24] })
    (B : Nat) (w0 : World) (v : Value) (xs : List Sg) (hs : a.eval s = v) (hown : OwnG B w0 v xs w) (hn : xs.length ≤ 1000)
    (xv : Value) (ys : List Sg) (hx : a.eval x = xv) (hm1 : ys.length ≤ 10) (hb : Gs w xv ys)
    (h : ∀ v' w', OwnG B w0 v' (xs ++ ys) w' → w.grownBy w' v.ownBlock → K (a.put o.dst v') w') : o.wp Tryz.prog a w K Q := by
  obtain ⟨A, c, rfl, hmc, hA, hb⟩ := hb
  cases A with
  | none =>
    have hc0 := hA rfl
    subst hc0
    obtain rfl : ys = [] := List.eq_nil_of_length_eq_zero (by omega)
    obtain ⟨i0, hi, hz0, hz1, hz2⟩ := info_parts info28
    have hr := run_append_owned_none (P := Tryz.prog) (w := w) B 24 o.type 28 i0 2 Tryz.underlying24 hi v _ _ hown.1
    unfold Oper.wp execOp
    simp only [ho, resolve, invoke, builtin, Sem.run_bind, Sem.run_pure, Result.andThen_ok, List.map_toArray, List.map_cons, List.map_nil, hs, hx, List.length_nil, hr]
    rw [List.append_nil] at h
    exact h v w hown (World.grownBy.refl _ _)
  | some ad =>
    refine wp_appG w s x ho B w0 v xs hs hown (by omega) ad _ c ys hx rfl hm1 ?_ (fun v' w' h2 h3 _ => h v' w' h2 h3)
    intro j u hu
    have hj : j < ys.length * 2 := by
      have := (List.getElem?_eq_some_iff.1 hu).1
      rw [sgC_len] at this
      exact this
    obtain ⟨b, off, e, c1, c2⟩ := hb (j / 2) (by omega)
    cases e
    obtain ⟨k1, k2⟩ := sgC_at ys (j / 2) (by omega)
    rw [Addr.add_lit]
    rcases (show j = j / 2 * 2 ∨ j = j / 2 * 2 + 1 by omega) with e | e
    · rw [e, k1] at hu
      rw [e, c1]
      exact hu
    · rw [e, k2] at hu
      rw [e, ← Nat.add_assoc, c2]
      exact hu
theorem wpList_catG {ops : Array Oper} {rest : List Oper} {o : Oper} {a : Act} {Q : Exit → Act → World → Prop} (w : World) (hgd : o.guard = none) (s x : Operand)
    (ho : o.op = .call { callee := .builtin .append, args := #[s, x], argTypes := #[24, 24] })
    (B : Nat) (w0 : World) (v : Value) (xs : List Sg) (hs : a.eval s = v) (hown : OwnG B w0 v xs w) (hn : xs.length ≤ 1000)
    (xv : Value) (ys : List Sg) (hx : a.eval x = xv) (hm1 : ys.length ≤ 10) (hb : Gs w xv ys)
    (h : ∀ v' w', OwnG B w0 v' (xs ++ ys) w' → w.grownBy w' v.ownBlock → wpList Tryz.prog ops Q rest (a.put o.dst v') w') : wpList Tryz.prog ops Q (o :: rest) a w :=
  wpList_plain hgd fun _ hK => wp_catG w s x ho B w0 v xs hs hown hn xv ys hx hm1 hb fun v' w' h2 h3 => hK _ _ (h v' w' h2 h3)
end Go.Proofs.YthigandmemifoaaGreatDoor
