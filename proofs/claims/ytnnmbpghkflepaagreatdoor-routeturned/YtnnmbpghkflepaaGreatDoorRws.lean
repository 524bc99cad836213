/-
  Slices of patterns that the call makes: append.
-/
import Derived.Test.YtnnmbpghkflepaaGreatDoorFst
import Derived.Test.YtnnmbpghkflepaaGreatDoorKWalk
import Derived.Laws.AppendOwnNone
namespace Go.Proofs.YtnnmbpghkflepaaGreatDoor
open Go.RowKit Go.PlainAid
set_option maxRecDepth 100000

theorem info50 : (Tryz.prog.info? 50).map (fun i => (i.zero, i.size, i.bytes)) = some (some (.slice none 0 0), 1, 24) := by kernel_rfl

/-- patterns, each in a block of segments, in a row of the call's own -/
def OwnL (B : Nat) (w0 : World) (v : Value) (ls : List (List Sg)) (w : World) : Prop :=
  ∃ us : List Value, w.ownsRow B 50 1 v ls.length us ∧ Below B w0 w ∧ B ≤ w.heap.size ∧ ∀ i, i < ls.length → ∃ u, us[i]? = some u ∧ Gt w u (ls.getD i default)

theorem Gt.shape {w : World} {v : Value} {l : List Sg} (h : Gt w v l) : ∃ A n c, v = .slice A n c := h.1.shape
theorem Gt.grown {w w' : World} {v : Value} {l : List Sg} {row : Option Nat} (h : Gt w v l) (hg : w.grownBy w' row) (hrow : ∀ g, row = some g → ∃ cur fz, w.heap[g]? = some (.cells cur 50 fz)) : Gt w' v l := by
  have key : ∀ b o n c, v = .slice (some ⟨b, o, none⟩) n c → w'.heap[b]? = w.heap[b]? := by
    intro b o n c e
    obtain ⟨cur, fz, hk⟩ := h.2 b o n c e
    refine hg.block b (blk_lt hk) ?_
    intro e2
    obtain ⟨cur', fz', hk'⟩ := hrow b e2.symm
    rw [hk] at hk'
    cases hk'
  refine ⟨?_, fun b o n c e => ?_⟩
  · obtain ⟨A, cap, e, h2, h3, h4⟩ := h.1
    refine ⟨A, cap, e, h2, h3, fun i hi => ?_⟩
    obtain ⟨b, o, ha, hc, hd⟩ := h4 i hi
    have hk := key b o l.length cap (by rw [e, ha])
    exact ⟨b, o, ha, by rw [World.cell?_of_block (w := w) hk]; exact hc, by rw [World.cell?_of_block (w := w) hk]; exact hd⟩
  · obtain ⟨cur, fz, hk⟩ := h.2 b o n c e
    exact ⟨cur, fz, (key b o n c e).trans hk⟩
section
variable {B : Nat} {w0 : World} {v : Value} {w : World} {ls : List (List Sg)}
theorem owns26 {n : Nat} {us : List Value} (h : w.ownsRow B 50 1 v n us) : ∀ g, v.ownBlock = some g → ∃ cur fz, w.heap[g]? = some (.cells cur 50 fz) := by
  intro g hg
  obtain ⟨_, ⟨rfl, _⟩ | ⟨g', cap, cur, rfl, _, hk, _⟩⟩ := h
  · cases hg
  · cases hg
    exact ⟨cur, _, hk⟩
theorem OwnL.call {w' : World} (h : OwnL B w0 v ls w) (hb : Below w.heap.size w w') : OwnL B w0 v ls w' := by
  obtain ⟨us, h1, h2, h3, h4⟩ := h
  refine ⟨us, owns_call h1 hb, h2.trans (hb.mono h3), by have := hb.size; omega, fun i hi => ?_⟩
  obtain ⟨u, hu, hg⟩ := h4 i hi
  exact ⟨u, hu, hg.call hb⟩
theorem OwnL.alloc (h : OwnL B w0 v ls w) (o : Obj) : OwnL B w0 v ls (w.alloc o) := h.call ((Below.refl _ _).alloc (Nat.le_refl _) o)
theorem OwnL.below (h : OwnL B w0 v ls w) : Below B w0 w := by obtain ⟨_, _, h2, _⟩ := h; exact h2
theorem OwnL.size (h : OwnL B w0 v ls w) : B ≤ w.heap.size := by obtain ⟨_, _, _, h3, _⟩ := h; exact h3
theorem nilL (B : Nat) (w0 w : World) (hb : Below B w0 w) (hB : B ≤ w.heap.size) : OwnL B w0 (.slice none 0 0) [] w := ⟨[], World.ownsRow_nil _ _ _ _, hb, hB, fun i hi => by simp at hi⟩
theorem empL (B : Nat) (w0 w : World) (hb : Below B w0 w) (hB : B ≤ w.heap.size) : OwnL B w0 (.slice (some ⟨w.heap.size, 0, none⟩) 0 0) [] (w.alloc (.cells #[] 50 (0, 0))) :=
  ⟨[], World.ownsRow_made w #[] 0 hB (by unfold maxLen; omega) (by simp), hb.alloc hB _, by simp; omega, fun i hi => by simp at hi⟩
/-- read -/
theorem OwnL.gss (h : OwnL B w0 v ls w) : Gss w v ls := by
  obtain ⟨us, h1, _, _, h4⟩ := h
  have hc := @World.ownsRow.cells _ _ _ _ _ _ _ h1
  obtain ⟨hl, ⟨rfl, h0⟩ | ⟨g, cap, cur, rfl, _, _, h5, _⟩⟩ := h1
  · obtain rfl : ls = [] := List.eq_nil_of_length_eq_zero h0
    exact gss_nil _
  · refine ⟨some ⟨g, 0, none⟩, cap, rfl, h5, (fun h => by cases h), fun i hi => ?_⟩
    obtain ⟨u, hu, hg⟩ := h4 i hi
    have := hc rfl i u hu
    rw [add_lit'] at this
    exact ⟨g, 0, u, rfl, this, hg.1⟩
/-- read, each in a block of segments -/
def Gts (w : World) (v : Value) (ls : List (List Sg)) : Prop :=
  ∃ A cap, v = .slice A ls.length cap ∧ ls.length ≤ cap ∧ (A = none → cap = 0) ∧ ∀ i, i < ls.length → ∃ b o u, A = some ⟨b, o, none⟩ ∧ w.cell? ⟨b, o + i, none⟩ = some u ∧ Gt w u (ls.getD i default)
theorem OwnL.gts (h : OwnL B w0 v ls w) : Gts w v ls := by
  obtain ⟨us, h1, _, _, h4⟩ := h
  have hc := @World.ownsRow.cells _ _ _ _ _ _ _ h1
  obtain ⟨hl, ⟨rfl, h0⟩ | ⟨g, cap, cur, rfl, _, _, h5, _⟩⟩ := h1
  · obtain rfl : ls = [] := List.eq_nil_of_length_eq_zero h0
    exact ⟨none, 0, rfl, by simp, fun _ => rfl, fun i hi => by simp at hi⟩
  · refine ⟨some ⟨g, 0, none⟩, cap, rfl, h5, (fun h => by cases h), fun i hi => ?_⟩
    obtain ⟨u, hu, hg⟩ := h4 i hi
    have := hc rfl i u hu
    rw [add_lit'] at this
    exact ⟨g, 0, u, rfl, this, hg⟩
theorem Gts.call {w' : World} (h : Gts w v ls) (hb : Below w.heap.size w w') : Gts w' v ls := by
  obtain ⟨A, cap, h1, h2, h3, h4⟩ := h
  refine ⟨A, cap, h1, h2, h3, fun i hi => ?_⟩
  obtain ⟨b, o, u, ha, hc, hd⟩ := h4 i hi
  exact ⟨b, o, u, ha, by rw [hb.cell (World.block_lt_of_cell? w _ hc)]; exact hc, hd.call hb⟩
theorem Gts.gss (h : Gts w v ls) : Gss w v ls := by
  obtain ⟨A, cap, h1, h2, h3, h4⟩ := h
  refine ⟨A, cap, h1, h2, h3, fun i hi => ?_⟩
  obtain ⟨b, o, u, ha, hc, hd⟩ := h4 i hi
  exact ⟨b, o, u, ha, hc, hd.1⟩
theorem OwnL.shape (h : OwnL B w0 v ls w) : ∃ A n c, v = .slice A n c := h.gss.shape

/-- append(v, x...), x some of them -/
theorem wp_appL {o : Oper} {a : Act} {K : Act → World → Prop} {Q : Exit → Act → World → Prop} (s x : Operand)
    (ho : o.op = .call { callee := .builtin .append, args := #[s, x], argTypes := #[66, 66] })
    (hs : a.eval s = v) (hown : OwnL B w0 v ls w) (hn : ls.length ≤ 1000)
    (A : Option Addr) (m c : Nat) (ms : List (List Sg)) (hx : a.eval x = .slice A m c) (hm : ms.length = m) (hm1 : m ≤ 1000) (hmc : m ≤ c) (hA : A = none → c = 0)
    (hb : ∀ i, i < m → ∃ b off u, A = some ⟨b, off, none⟩ ∧ w.cell? ⟨b, off + i, none⟩ = some u ∧ Gt w u (ms.getD i default))
    (h : ∀ v' w', OwnL B w0 v' (ls ++ ms) w' → w.grownBy w' v.ownBlock → K (a.put o.dst v') w') : o.wp Tryz.prog a w K Q := by
  obtain ⟨us, h1, h2, h3, h4⟩ := hown
  obtain ⟨i0, hi, hz0, hz1, hz2⟩ := info_parts info50
  cases A with
  | none =>
    have hc0 := hA rfl
    subst hc0
    obtain rfl : m = 0 := by omega
    obtain rfl : ms = [] := List.eq_nil_of_length_eq_zero hm
    have hr := run_append_owned_none (P := Tryz.prog) (w := w) B 66 o.type 50 i0 1 Tryz.underlying66 hi v _ _ h1
    unfold Oper.wp execOp
    simp only [ho, resolve, invoke, builtin, Sem.run_bind, Sem.run_pure, Result.andThen_ok, List.map_toArray, List.map_cons, List.map_nil, hs, hx, hr]
    rw [List.append_nil] at h
    exact h v w ⟨us, h1, h2, h3, h4⟩ (World.grownBy.refl _ _)
  | some ad =>
    have hch : ∀ i, i < m → ∃ u, w.cell? (ad.add i) = some u ∧ Gt w u (ms.getD i default) := by
      intro i hi
      obtain ⟨b, off, u, e, hc, hg⟩ := hb i hi
      cases e
      exact ⟨u, by rw [Addr.add_lit]; exact hc, hg⟩
    have hch' : ∃ f : Nat → Value, ∀ i, i < m → w.cell? (ad.add i) = some (f i) ∧ Gt w (f i) (ms.getD i default) := by
      refine ⟨fun i => if hi : i < m then (hch i hi).choose else default, fun i hi => ?_⟩
      simp only [hi, dif_pos]
      exact (hch i hi).choose_spec
    obtain ⟨f, hf⟩ := hch'
    have hlen : ((List.range m).map f).length = m := by simp
    have hr := run_append_own_at (P := Tryz.prog) w B 66 o.type 50 i0 (.slice none 0 0) 1 24 Tryz.underlying66 hi hz0 hz1 hz2 rfl (by omega) v ls.length _ h1 ad m c ((List.range m).map f) (by rw [hlen]; omega) (by
      intro j u hu
      have hj : j < m := by
        have := (List.getElem?_eq_some_iff.1 hu).1
        rwa [hlen] at this
      rw [List.getElem?_map, List.getElem?_range hj] at hu
      simp only [Option.map_some, Option.some.injEq] at hu
      rw [← hu]
      exact (hf j hj).1) (by
      intro u hu
      rw [List.mem_map] at hu
      obtain ⟨i, hi', rfl⟩ := hu
      obtain ⟨A', n', c', e⟩ := (hf i (by simpa using hi')).2.shape
      rw [e]
      rfl) (by unfold maxLen; omega) (by omega) h3
    obtain ⟨v', w', hr, g2, g3, _, g5⟩ := hr
    unfold Oper.wp execOp
    simp only [ho, resolve, invoke, builtin, Sem.run_bind, Sem.run_pure, Result.andThen_ok, List.map_toArray, List.map_cons, List.map_nil, hs, hx, hr]
    have hul : us.length = ls.length := by have := h1.1; omega
    refine h v' w' ⟨us ++ (List.range m).map f, ?_, h2.grown g3 h3 (fun k hk => (h1.lt k hk).1), by have := g3.size; omega, fun i hi => ?_⟩ g3
    · rw [List.length_append, hm]
      exact g2
    · rw [List.length_append, hm] at hi
      by_cases hil : i < ls.length
      · obtain ⟨u, hu, hg⟩ := h4 i hil
        refine ⟨u, by rw [List.getElem?_append_left (by omega)]; exact hu, ?_⟩
        have e : (ls ++ ms).getD i default = ls.getD i default := by simp only [List.getD]; rw [List.getElem?_append_left hil]
        rw [e]
        exact hg.grown g3 (owns26 h1)
      · have him : i - ls.length < m := by omega
        refine ⟨f (i - ls.length), ?_, ?_⟩
        · rw [List.getElem?_append_right (by omega), hul, List.getElem?_map, List.getElem?_range him]
          rfl
        · have e : (ls ++ ms).getD i default = ms.getD (i - ls.length) default := by simp only [List.getD]; rw [List.getElem?_append_right (by omega)]
          rw [e]
          exact (hf _ him).2.grown g3 (owns26 h1)
theorem wpList_appL {ops : Array Oper} {rest : List Oper} {o : Oper} {a : Act} {Q : Exit → Act → World → Prop} (hgd : o.guard = none) (s x : Operand)
    (ho : o.op = .call { callee := .builtin .append, args := #[s, x], argTypes := #[66, 66] })
    (hs : a.eval s = v) (hown : OwnL B w0 v ls w) (hn : ls.length ≤ 1000)
    (A : Option Addr) (m c : Nat) (ms : List (List Sg)) (hx : a.eval x = .slice A m c) (hm : ms.length = m) (hm1 : m ≤ 1000) (hmc : m ≤ c) (hA : A = none → c = 0)
    (hb : ∀ i, i < m → ∃ b off u, A = some ⟨b, off, none⟩ ∧ w.cell? ⟨b, off + i, none⟩ = some u ∧ Gt w u (ms.getD i default))
    (h : ∀ v' w', OwnL B w0 v' (ls ++ ms) w' → w.grownBy w' v.ownBlock → wpList Tryz.prog ops Q rest (a.put o.dst v') w') : wpList Tryz.prog ops Q (o :: rest) a w :=
  wpList_plain hgd fun _ hK => wp_appL s x ho hs hown hn A m c ms hx hm hm1 hmc hA hb fun v' w' h2 h3 => hK _ _ (h v' w' h2 h3)
/-- one new one -/
theorem one_src {u : Value} {l : List Sg} {b : Nat} (hk : w.heap[b]? = some (.cells #[u] 50 (0, 0))) (hu : Gt w u l) : ∀ i, i < 1 → ∃ b' off u', (some (⟨b, 0, none⟩ : Addr)) = some ⟨b', off, none⟩ ∧ w.cell? ⟨b', off + i, none⟩ = some u' ∧ Gt w u' ([l].getD i default) := by
  intro i hi
  obtain rfl : i = 0 := by omega
  exact ⟨b, 0, u, rfl, by rw [blk_cell hk]; rfl, hu⟩
end

/-- append(v, x...) of segments, x perhaps none -/
theorem wp_fewG {o : Oper} {a : Act} {K : Act → World → Prop} {Q : Exit → Act → World → Prop} (w : World) (s x : Operand)
    (ho : o.op = .call { callee := .builtin .append, args := #[s, x], argTypes := #[50, 50] })
    (B : Nat) (w0 : World) (v : Value) (hs : a.eval s = v) (hown : OwnG B w0 v [] w)
    (A : Option Addr) (m c : Nat) (ys : List Sg) (hx : a.eval x = .slice A m c) (hm : ys.length = m) (hm1 : m ≤ 10) (hmc : m ≤ c) (hA : A = none → c = 0)
    (hb : ∀ i, i < m → ∃ b off, A = some ⟨b, off, none⟩ ∧ w.cell? ⟨b, off + i * 2, none⟩ = some (.int .i64 (ys.getD i default).1) ∧ w.cell? ⟨b, off + i * 2 + 1, none⟩ = some (.string (ys.getD i default).2))
    (h : ∀ v' w', OwnG B w0 v' ys w' → w.grownBy w' v.ownBlock → K (a.put o.dst v') w') : o.wp Tryz.prog a w K Q := by
  cases A with
  | none =>
    have hc0 := hA rfl
    subst hc0
    obtain rfl : m = 0 := by omega
    obtain rfl : ys = [] := List.eq_nil_of_length_eq_zero hm
    obtain ⟨i0, hi, hz0, hz1, hz2⟩ := info_parts info49
    have hr := run_append_owned_none (P := Tryz.prog) (w := w) B 50 o.type 49 i0 2 Tryz.underlying50 hi v _ _ hown.1
    unfold Oper.wp execOp
    simp only [ho, resolve, invoke, builtin, Sem.run_bind, Sem.run_pure, Result.andThen_ok, List.map_toArray, List.map_cons, List.map_nil, hs, hx, hr]
    exact h v w hown (World.grownBy.refl _ _)
  | some ad =>
    refine wp_appG w s x ho B w0 v [] hs hown (by simp) ad m c ys hx hm hm1 ?_ (fun v' w' h2 h3 _ => h v' w' h2 h3)
    intro j u hu
    have hj : j < m * 2 := by
      have := (List.getElem?_eq_some_iff.1 hu).1
      rw [sgC_len, hm] at this
      exact this
    obtain ⟨b, off, e, c1, c2⟩ := hb (j / 2) (by omega)
    cases e
    obtain ⟨k1, k2⟩ := sgC_at ys (j / 2) (by omega)
    rw [Addr.add_lit]
    rcases (show j = j / 2 * 2 ∨ j = j / 2 * 2 + 1 by omega) with e | e
    · rw [e, k1] at hu
      rw [e, c1]
      exact hu
    · rw [e, k2] at hu
      rw [e, ← Nat.add_assoc, c2]
      exact hu
theorem wpList_fewG {ops : Array Oper} {rest : List Oper} {o : Oper} {a : Act} {Q : Exit → Act → World → Prop} (w : World) (hgd : o.guard = none) (s x : Operand)
    (ho : o.op = .call { callee := .builtin .append, args := #[s, x], argTypes := #[50, 50] })
    (B : Nat) (w0 : World) (v : Value) (hs : a.eval s = v) (hown : OwnG B w0 v [] w)
    (A : Option Addr) (m c : Nat) (ys : List Sg) (hx : a.eval x = .slice A m c) (hm : ys.length = m) (hm1 : m ≤ 10) (hmc : m ≤ c) (hA : A = none → c = 0)
    (hb : ∀ i, i < m → ∃ b off, A = some ⟨b, off, none⟩ ∧ w.cell? ⟨b, off + i * 2, none⟩ = some (.int .i64 (ys.getD i default).1) ∧ w.cell? ⟨b, off + i * 2 + 1, none⟩ = some (.string (ys.getD i default).2))
    (h : ∀ v' w', OwnG B w0 v' ys w' → w.grownBy w' v.ownBlock → wpList Tryz.prog ops Q rest (a.put o.dst v') w') : wpList Tryz.prog ops Q (o :: rest) a w :=
  wpList_plain hgd fun _ hK => wp_fewG w s x ho B w0 v hs hown A m c ys hx hm hm1 hmc hA hb fun v' w' h2 h3 => hK _ _ (h v' w' h2 h3)
end Go.Proofs.YtnnmbpghkflepaaGreatDoor
