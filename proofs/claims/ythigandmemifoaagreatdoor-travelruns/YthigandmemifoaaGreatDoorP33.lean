/-
  Put together: LBase, LAsk.
-/
import Derived.Test.YthigandmemifoaaGreatDoorP04
import Derived.PlainAid
import Derived.OwnWalk
import Derived.Deep.AppendLies
import Derived.Laws.AppendOwnNone
import Derived.Maps.AppendAt
import Derived.Deep.RegionHeld3
import Derived.Deep.RegionLaw
import Derived.Laws.ResultCell
import Derived.Deep.QuietTactic
import Derived.BigQuiet
import Derived.Lib.Hide
import Derived.Lib.Small
namespace Go.Proofs.YthigandmemifoaaGreatDoor
open Go.RowKit Go.PlainAid
set_option maxRecDepth 100000

/-- a rule -/
structure Rl where
  k : Int
  f : Int
  t : ByteArray
instance : Inhabited Rl := ⟨⟨0, 0, ⟨#[]⟩⟩⟩
def rlC (r : Rl) : List Value := [.int .i64 r.k, .int .i64 r.f, .string r.t]
theorem info23 : (Tryz.prog.info? 23).map (fun i => (i.zero, i.size, i.bytes)) = some (some (.agg #[.int .i64 0, .int .i64 0, .string ⟨#[]⟩]), 3, 32) := by kernel_rfl
theorem info4 : (Tryz.prog.info? 4).map (fun i => (i.zero, i.size, i.bytes)) = some (some (.bool false), 1, 1) := by kernel_rfl
theorem rlC_len (l : List Rl) : (l.flatMap rlC).length = l.length * 3 := by
  induction l with
  | nil => rfl
  | cons p l ih => simp [rlC] at ih ⊢; omega
theorem rlC_one (l : List Rl) : ∀ u ∈ l.flatMap rlC, u.oneCell' = true := by
  intro u hu
  simp only [List.mem_flatMap, rlC] at hu
  obtain ⟨p, _, hu⟩ := hu
  simp at hu
  rcases hu with rfl | rfl | rfl <;> rfl
theorem rlC_at (l : List Rl) (i j : Nat) (h : i < l.length) (hj : j < 3) : (l.flatMap rlC)[i * 3 + j]? = (rlC (l.getD i default))[j]? := by
  induction l generalizing i with
  | nil => simp at h
  | cons p l ih =>
    have e : (p :: l).flatMap rlC = rlC p ++ l.flatMap rlC := rfl
    have hl : (rlC p).length = 3 := rfl
    rw [e]
    cases i with
    | zero =>
      rw [List.getElem?_append_left (by rw [hl]; omega)]
      simp
    | succ i =>
      rw [List.getElem?_append_right (by rw [hl]; omega)]
      have e2 : (i + 1) * 3 + j - (rlC p).length = i * 3 + j := by rw [hl]; omega
      rw [e2, ih i (by simpa using h)]
      simp

/-- the three cells of a rule -/
structure RlAt (w : World) (b o : Nat) (r : Rl) : Prop where
  c0 : w.cell? ⟨b, o, none⟩ = some (.int .i64 r.k)
  c1 : w.cell? ⟨b, o + 1, none⟩ = some (.int .i64 r.f)
  c2 : w.cell? ⟨b, o + 2, none⟩ = some (.string r.t)
theorem RlAt.of {w : World} {b o : Nat} {r : Rl} (h : ∀ j, j < 3 → w.cell? ⟨b, o + j, none⟩ = (rlC r)[j]?) : RlAt w b o r :=
  ⟨h 0 (by omega), h 1 (by omega), h 2 (by omega)⟩
theorem RlAt.to {w : World} {b o : Nat} {r : Rl} (h : RlAt w b o r) : ∀ j, j < 3 → w.cell? ⟨b, o + j, none⟩ = (rlC r)[j]? := by
  intro j hj
  rcases (show j = 0 ∨ j = 1 ∨ j = 2 by omega) with rfl | rfl | rfl
  · exact h.c0
  · exact h.c1
  · exact h.c2
theorem RlAt.call {w w' : World} {b o : Nat} {r : Rl} (h : RlAt w b o r) (hb : Below w.heap.size w w') : RlAt w' b o r := by
  have k : ∀ (p : Addr) (v : Value), w.cell? p = some v → w'.cell? p = some v := fun p v hc => by rw [hb.cell (World.block_lt_of_cell? w _ hc)]; exact hc
  exact ⟨k _ _ h.c0, k _ _ h.c1, k _ _ h.c2⟩

/-- the slice holds n rules, g says which -/
def Rls (w : World) (v : Value) (n : Nat) (g : Nat → Rl) : Prop :=
  ∃ A c, v = .slice A n c ∧ n ≤ c ∧ (A = none → c = 0) ∧ ∀ i, i < n → ∃ b o, A = some ⟨b, o, none⟩ ∧ RlAt w b (o + i * 3) (g i)
/-- the slice holds n flags, g says which -/
def Bs (w : World) (v : Value) (n : Nat) (g : Nat → Bool) : Prop :=
  ∃ A c, v = .slice A n c ∧ n ≤ c ∧ (A = none → c = 0) ∧ ∀ i, i < n → ∃ b o, A = some ⟨b, o, none⟩ ∧ w.cell? ⟨b, o + i, none⟩ = some (.bool (g i))
theorem Rls.call {w w' : World} {v : Value} {n : Nat} {g : Nat → Rl} (h : Rls w v n g) (hb : Below w.heap.size w w') : Rls w' v n g := by
  obtain ⟨A, c, h1, h2, h3, h4⟩ := h
  refine ⟨A, c, h1, h2, h3, fun i hi => ?_⟩
  obtain ⟨b, o, ha, hc⟩ := h4 i hi
  exact ⟨b, o, ha, hc.call hb⟩
theorem Bs.call {w w' : World} {v : Value} {n : Nat} {g : Nat → Bool} (h : Bs w v n g) (hb : Below w.heap.size w w') : Bs w' v n g := by
  obtain ⟨A, c, h1, h2, h3, h4⟩ := h
  refine ⟨A, c, h1, h2, h3, fun i hi => ?_⟩
  obtain ⟨b, o, ha, hc⟩ := h4 i hi
  exact ⟨b, o, ha, by rw [hb.cell (World.block_lt_of_cell? w _ hc)]; exact hc⟩
theorem Rls.shape {w : World} {v : Value} {n : Nat} {g : Nat → Rl} (h : Rls w v n g) : ∃ A c, v = .slice A n c := by
  obtain ⟨A, c, e, _⟩ := h
  exact ⟨_, _, e⟩
theorem Bs.shape {w : World} {v : Value} {n : Nat} {g : Nat → Bool} (h : Bs w v n g) : ∃ A c, v = .slice A n c := by
  obtain ⟨A, c, e, _⟩ := h
  exact ⟨_, _, e⟩
theorem Rls.cap {w : World} {A : Option Addr} {n c : Nat} {g : Nat → Rl} (h : Rls w (.slice A n c) n g) : n ≤ c := by
  obtain ⟨A', c', e, h2, _⟩ := h
  cases e
  exact h2
theorem Bs.cap {w : World} {A : Option Addr} {n c : Nat} {g : Nat → Bool} (h : Bs w (.slice A n c) n g) : n ≤ c := by
  obtain ⟨A', c', e, h2, _⟩ := h
  cases e
  exact h2
/-- the first some -/
theorem Rls.take {w : World} {A : Option Addr} {n c : Nat} {g : Nat → Rl} (h : Rls w (.slice A n c) n g) (k : Nat) (hk : k ≤ n) : Rls w (.slice A k c) k g := by
  obtain ⟨A', c', e, h2, h3, h4⟩ := h
  cases e
  exact ⟨A, c, rfl, by omega, h3, fun i hi => h4 i (by omega)⟩
theorem Bs.take {w : World} {A : Option Addr} {n c : Nat} {g : Nat → Bool} (h : Bs w (.slice A n c) n g) (k : Nat) (hk : k ≤ n) : Bs w (.slice A k c) k g := by
  obtain ⟨A', c', e, h2, h3, h4⟩ := h
  cases e
  exact ⟨A, c, rfl, by omega, h3, fun i hi => h4 i (by omega)⟩
/-- those behind the first some -/
theorem Rls.rest {w : World} {A : Option Addr} {n c : Nat} {g : Nat → Rl} (h : Rls w (.slice A n c) n g) (k : Nat) (hk : k ≤ n) : Rls w (.slice (if c = k then A else Option.map (fun x => x.add (k * 3)) A) (n - k) (c - k)) (n - k) (fun i => g (k + i)) := by
  obtain ⟨A', c', e, h2, h3, h4⟩ := h
  cases e
  by_cases hkc : c = k
  · subst hkc
    rw [if_pos rfl]
    exact ⟨A, _, rfl, by omega, fun _ => by omega, fun i hi => by omega⟩
  · rw [if_neg hkc]
    refine ⟨_, c - k, rfl, by omega, ?_, fun i hi => ?_⟩
    · intro e
      cases A with
      | none => have := h3 rfl; omega
      | some a => cases e
    · obtain ⟨b, o, ha, hc⟩ := h4 (k + i) (by omega)
      subst ha
      refine ⟨b, o + k * 3, congrArg some (Addr.add_lit ..), ?_⟩
      have : o + k * 3 + i * 3 = o + (k + i) * 3 := by omega
      rw [this]; exact hc
theorem rls_nil (w : World) (g : Nat → Rl) : Rls w (.slice none 0 0) 0 g := ⟨none, 0, rfl, by simp, fun _ => rfl, fun i hi => by omega⟩

/-- a row of rules of the call's own -/
def OwnRl (B : Nat) (w0 : World) (v : Value) (l : List Rl) (w : World) : Prop :=
  w.ownsRow B 23 3 v l.length (l.flatMap rlC) ∧ Below B w0 w ∧ B ≤ w.heap.size
/-- a row of flags of the call's own -/
def OwnB (B : Nat) (w0 : World) (v : Value) (l : List Bool) (w : World) : Prop :=
  w.ownsRow B 4 1 v l.length (l.map Value.bool) ∧ Below B w0 w ∧ B ≤ w.heap.size
section
variable {B : Nat} {w0 : World} {v : Value} {w : World}
theorem OwnRl.call {l : List Rl} {w' : World} (h : OwnRl B w0 v l w) (hb : Below w.heap.size w w') : OwnRl B w0 v l w' :=
  ⟨owns_call h.1 hb, h.2.1.trans (hb.mono h.2.2), by have := hb.size; have := h.2.2; omega⟩
theorem OwnB.call {l : List Bool} {w' : World} (h : OwnB B w0 v l w) (hb : Below w.heap.size w w') : OwnB B w0 v l w' :=
  ⟨owns_call h.1 hb, h.2.1.trans (hb.mono h.2.2), by have := hb.size; have := h.2.2; omega⟩
theorem empRl (B : Nat) (w0 w : World) (hb : Below B w0 w) (hB : B ≤ w.heap.size) : OwnRl B w0 (.slice (some ⟨w.heap.size, 0, none⟩) 0 0) [] (w.alloc (.cells #[] 23 (0, 0))) :=
  ⟨World.ownsRow_made w #[] 0 hB (by unfold maxLen; omega) (by simp), hb.alloc hB _, by simp; omega⟩
theorem empB (B : Nat) (w0 w : World) (hb : Below B w0 w) (hB : B ≤ w.heap.size) : OwnB B w0 (.slice (some ⟨w.heap.size, 0, none⟩) 0 0) [] (w.alloc (.cells #[] 4 (0, 0))) :=
  ⟨World.ownsRow_made w #[] 0 hB (by unfold maxLen; omega) (by simp), hb.alloc hB _, by simp; omega⟩
theorem OwnRl.rs {l : List Rl} (h : OwnRl B w0 v l w) : Rls w v l.length (fun i => l.getD i default) := by
  have hc := @World.ownsRow.cells _ _ _ _ _ _ _ h.1
  obtain ⟨hl, ⟨rfl, h1⟩ | ⟨g, cap, cur, rfl, _, _, h4, _⟩⟩ := h.1
  · rw [h1]
    exact rls_nil _ _
  · refine ⟨some ⟨g, 0, none⟩, cap, rfl, h4, (fun h => by cases h), fun i hi => ⟨g, 0, rfl, RlAt.of fun j hj => ?_⟩⟩
    have e := rlC_at l i j hi hj
    have h8 : j < (rlC (l.getD i default)).length := hj
    rw [List.getElem?_eq_getElem h8] at e ⊢
    have := hc rfl (i * 3 + j) _ e
    rw [add_lit', ← Nat.add_assoc] at this
    exact this
theorem OwnB.bs {l : List Bool} (h : OwnB B w0 v l w) : Bs w v l.length (fun i => l.getD i false) := by
  have hc := @World.ownsRow.cells _ _ _ _ _ _ _ h.1
  obtain ⟨hl, ⟨rfl, h1⟩ | ⟨g, cap, cur, rfl, _, _, h4, _⟩⟩ := h.1
  · rw [h1]
    exact ⟨none, 0, rfl, by simp, fun _ => rfl, fun i hi => by omega⟩
  · refine ⟨some ⟨g, 0, none⟩, cap, rfl, h4, (fun h => by cases h), fun i hi => ⟨g, 0, rfl, ?_⟩⟩
    have := hc rfl i (.bool (l.getD i false)) (by simp [List.getD, hi])
    rw [add_lit'] at this
    exact this
/-- the cells of a row of flags of the call's own, that may be stored into -/
theorem OwnB.box {l : List Bool} (h : OwnB B w0 v l w) (hne : 0 < l.length) : ∃ g cap, v = .slice (some ⟨g, 0, none⟩) l.length cap ∧ B ≤ g ∧ (∀ i, i < l.length → w.cell? ⟨g, i, none⟩ = some (.bool (l.getD i false))) ∧ ∀ i, w.frozen? ⟨g, i, none⟩ = false := by
  have hc := @World.ownsRow.cells _ _ _ _ _ _ _ h.1
  obtain ⟨hl, ⟨rfl, h1⟩ | ⟨g, cap, cur, rfl, hB, hg, h4, _⟩⟩ := h.1
  · omega
  · refine ⟨g, cap, rfl, hB, fun i hi => ?_, fun i => blk_frozen hg i⟩
    have := hc rfl i (.bool (l.getD i false)) (by simp [List.getD, hi])
    rw [add_lit', Nat.zero_add] at this
    exact this
theorem OwnB.set {l : List Bool} {g n cap : Nat} (h : OwnB B w0 (.slice (some ⟨g, 0, none⟩) n cap) l w) (i : Nat) (y : Bool) : OwnB B w0 (.slice (some ⟨g, 0, none⟩) n cap) (l.set i y) (w.setCell ⟨g, i, none⟩ (.bool y)) := by
  obtain ⟨⟨hl, h1⟩, h2, h3⟩ := h
  rcases h1 with ⟨e, _⟩ | ⟨g', cap', cur, e, hB, hg, h4, h5, h6, h7⟩
  · cases e
  · simp only [Value.slice.injEq, Option.some.injEq, Addr.mk.injEq, and_true] at e
    obtain ⟨rfl, rfl, rfl⟩ := e
    refine ⟨⟨by simp, Or.inr ⟨g, cap, cur.setIfInBounds i (.bool y), by rw [List.length_set], hB, blk_setCell hg _ _, by rw [List.length_set]; exact h4, h5, by simpa using h6, ?_⟩⟩, h2.setCell hB _, by simpa [World.setCell] using h3⟩
    rw [List.length_set, Array.toList_setIfInBounds, List.take_set, h7]
    simp [List.map_set]
end

/-- append(v, x...) of rules, x perhaps none -/
theorem wp_catR {o : Oper} {a : Act} {K : Act → World → Prop} {Q : Exit → Act → World → Prop} (w : World) (s x : Operand)
    (ho : o.op = .call { callee := .builtin .append, args := #[s, x], argTypes := #[56, 56] })
    (B : Nat) (w0 : World) (v : Value) (xs : List Rl) (hs : a.eval s = v) (hown : OwnRl B w0 v xs w) (hn : xs.length ≤ 1000)
    (xv : Value) (m : Nat) (g : Nat → Rl) (hx : a.eval x = xv) (hm1 : m ≤ 10) (hb : Rls w xv m g)
    (h : ∀ v' w', OwnRl B w0 v' (xs ++ (List.range m).map g) w' → w.grownBy w' v.ownBlock → K (a.put o.dst v') w') : o.wp Tryz.prog a w K Q := by
  obtain ⟨A, c, rfl, hmc, hA, hb⟩ := hb
  obtain ⟨i0, hi, hz0, hz1, hz2⟩ := info_parts info23
  cases A with
  | none =>
    have hc0 := hA rfl
    subst hc0
    obtain rfl : m = 0 := by omega
    have hr := run_append_owned_none (P := Tryz.prog) (w := w) B 56 o.type 23 i0 3 Tryz.underlying56 hi v _ _ hown.1
    unfold Oper.wp execOp
    simp only [ho, resolve, invoke, builtin, Sem.run_bind, Sem.run_pure, Result.andThen_ok, List.map_toArray, List.map_cons, List.map_nil, hs, hx, hr]
    simp only [List.range_zero, List.map_nil, List.append_nil] at h
    exact h v w hown (World.grownBy.refl _ _)
  | some ad =>
    have hlen : ((List.range m).map g).length = m := by simp
    have hr := run_append_own_at (P := Tryz.prog) w B 56 o.type 23 i0 (.agg #[.int .i64 0, .int .i64 0, .string ⟨#[]⟩]) 3 32 Tryz.underlying56 hi hz0 hz1 hz2 rfl (by omega) v xs.length _ hown.1 ad m c (((List.range m).map g).flatMap rlC) (by rw [rlC_len, hlen]) (by
      intro j u hu
      have hj : j < m * 3 := by
        have := (List.getElem?_eq_some_iff.1 hu).1
        rw [rlC_len, hlen] at this
        exact this
      obtain ⟨b, off, e, hat⟩ := hb (j / 3) (by omega)
      cases e
      have k1 := rlC_at ((List.range m).map g) (j / 3) (j % 3) (by rw [hlen]; omega) (by omega)
      have e1 : j / 3 * 3 + j % 3 = j := by omega
      have e2 : ((List.range m).map g).getD (j / 3) default = g (j / 3) := by simp [List.getD, show j / 3 < m by omega]
      rw [e1, e2] at k1
      have k2 := hat.to (j % 3) (by omega)
      rw [Nat.add_assoc, e1] at k2
      rw [Addr.add_lit, k2, ← k1, hu]) (rlC_one _) (by unfold maxLen; omega) (by omega) hown.2.2
    obtain ⟨v', w', hr, h2, h3, _, h5⟩ := hr
    unfold Oper.wp execOp
    simp only [ho, resolve, invoke, builtin, Sem.run_bind, Sem.run_pure, Result.andThen_ok, List.map_toArray, List.map_cons, List.map_nil, hs, hx, hr]
    refine h v' w' ⟨?_, hown.2.1.grown h3 hown.2.2 (fun k hk => (hown.1.lt k hk).1), by have := h3.size; have := hown.2.2; omega⟩ h3
    rw [List.length_append, List.flatMap_append, hlen]
    exact h2
theorem wpList_catR {ops : Array Oper} {rest : List Oper} {o : Oper} {a : Act} {Q : Exit → Act → World → Prop} (w : World) (hgd : o.guard = none) (s x : Operand)
    (ho : o.op = .call { callee := .builtin .append, args := #[s, x], argTypes := #[56, 56] })
    (B : Nat) (w0 : World) (v : Value) (xs : List Rl) (hs : a.eval s = v) (hown : OwnRl B w0 v xs w) (hn : xs.length ≤ 1000)
    (xv : Value) (m : Nat) (g : Nat → Rl) (hx : a.eval x = xv) (hm1 : m ≤ 10) (hb : Rls w xv m g)
    (h : ∀ v' w', OwnRl B w0 v' (xs ++ (List.range m).map g) w' → w.grownBy w' v.ownBlock → wpList Tryz.prog ops Q rest (a.put o.dst v') w') : wpList Tryz.prog ops Q (o :: rest) a w :=
  wpList_plain hgd fun _ hK => wp_catR w s x ho B w0 v xs hs hown hn xv m g hx hm1 hb fun v' w' h2 h3 => hK _ _ (h v' w' h2 h3)

/-- append(v, x...) of flags, x perhaps none -/
theorem wp_catB {o : Oper} {a : Act} {K : Act → World → Prop} {Q : Exit → Act → World → Prop} (w : World) (s x : Operand)
    (ho : o.op = .call { callee := .builtin .append, args := #[s, x], argTypes := #[47, 47] })
    (B : Nat) (w0 : World) (v : Value) (xs : List Bool) (hs : a.eval s = v) (hown : OwnB B w0 v xs w) (hn : xs.length ≤ 1000)
    (xv : Value) (m : Nat) (g : Nat → Bool) (hx : a.eval x = xv) (hm1 : m ≤ 10) (hb : Bs w xv m g)
    (h : ∀ v' w', OwnB B w0 v' (xs ++ (List.range m).map g) w' → w.grownBy w' v.ownBlock → K (a.put o.dst v') w') : o.wp Tryz.prog a w K Q := by
  obtain ⟨A, c, rfl, hmc, hA, hb⟩ := hb
  obtain ⟨i0, hi, hz0, hz1, hz2⟩ := info_parts info4
  cases A with
  | none =>
    have hc0 := hA rfl
    subst hc0
    obtain rfl : m = 0 := by omega
    have hr := run_append_owned_none (P := Tryz.prog) (w := w) B 47 o.type 4 i0 1 Tryz.underlying47 hi v _ _ hown.1
    unfold Oper.wp execOp
    simp only [ho, resolve, invoke, builtin, Sem.run_bind, Sem.run_pure, Result.andThen_ok, List.map_toArray, List.map_cons, List.map_nil, hs, hx, hr]
    simp only [List.range_zero, List.map_nil, List.append_nil] at h
    exact h v w hown (World.grownBy.refl _ _)
  | some ad =>
    have hlen : ((List.range m).map g).length = m := by simp
    have hr := run_append_own_at (P := Tryz.prog) w B 47 o.type 4 i0 (.bool false) 1 1 Tryz.underlying47 hi hz0 hz1 hz2 rfl (by omega) v xs.length _ hown.1 ad m c (((List.range m).map g).map Value.bool) (by simp) (by
      intro j u hu
      have hj : j < m := by
        have := (List.getElem?_eq_some_iff.1 hu).1
        simpa using this
      obtain ⟨b, off, e, hat⟩ := hb j hj
      cases e
      simp only [List.getElem?_map, List.getElem?_range hj, Option.map_some, Option.some.injEq] at hu
      rw [Addr.add_lit, hat, hu]) (by
      intro u hu
      simp only [List.mem_map] at hu
      obtain ⟨y, _, rfl⟩ := hu
      rfl) (by unfold maxLen; omega) (by omega) hown.2.2
    obtain ⟨v', w', hr, h2, h3, _, h5⟩ := hr
    unfold Oper.wp execOp
    simp only [ho, resolve, invoke, builtin, Sem.run_bind, Sem.run_pure, Result.andThen_ok, List.map_toArray, List.map_cons, List.map_nil, hs, hx, hr]
    refine h v' w' ⟨?_, hown.2.1.grown h3 hown.2.2 (fun k hk => (hown.1.lt k hk).1), by have := h3.size; have := hown.2.2; omega⟩ h3
    rw [List.length_append, List.map_append, hlen]
    exact h2
theorem wpList_catB {ops : Array Oper} {rest : List Oper} {o : Oper} {a : Act} {Q : Exit → Act → World → Prop} (w : World) (hgd : o.guard = none) (s x : Operand)
    (ho : o.op = .call { callee := .builtin .append, args := #[s, x], argTypes := #[47, 47] })
    (B : Nat) (w0 : World) (v : Value) (xs : List Bool) (hs : a.eval s = v) (hown : OwnB B w0 v xs w) (hn : xs.length ≤ 1000)
    (xv : Value) (m : Nat) (g : Nat → Bool) (hx : a.eval x = xv) (hm1 : m ≤ 10) (hb : Bs w xv m g)
    (h : ∀ v' w', OwnB B w0 v' (xs ++ (List.range m).map g) w' → w.grownBy w' v.ownBlock → wpList Tryz.prog ops Q rest (a.put o.dst v') w') : wpList Tryz.prog ops Q (o :: rest) a w :=
  wpList_plain hgd fun _ hK => wp_catB w s x ho B w0 v xs hs hown hn xv m g hx hm1 hb fun v' w' h2 h3 => hK _ _ (h v' w' h2 h3)
end Go.Proofs.YthigandmemifoaaGreatDoor

namespace Go.Proofs.YthigandmemifoaaGreatDoor
open Go.RowKit Go.PlainAid
set_option maxRecDepth 100000

/-- is flag i of these set? -/
def fsB (n : Nat) (g : Nat → Bool) (i : Int) : Bool := decide (0 ≤ i) && decide (i < n) && g i.toNat
theorem stB_neg {n : Nat} {g : Nat → Bool} {i : Int} (h : ¬ 0 ≤ i) : fsB n g i = false := by
  simp [fsB, h]
theorem stB_big {n : Nat} {g : Nat → Bool} {i : Int} (h : ¬ i < n) : fsB n g i = false := by
  simp [fsB, h]
theorem stB_nat {n : Nat} {g : Nat → Bool} {i : Nat} (h : i < n) : fsB n g (i : Int) = g i := by
  simp [fsB, h]

set_option maxHeartbeats 400000 in
theorem isSet12 (v : Value) (n : Nat) (g : Nat → Bool) (i : Int) (w : World) (h : Bs w v n g) :
    Calls Tryz.prog 58 #[.int .i64 i, v] w fun e w' => e = .returned (.bool (fsB n g i)) ∧ w' = w := by
  obtain ⟨A, c, rfl, _, _, hc⟩ := h
  by_cases h0 : 0 ≤ i
  · obtain ⟨k, rfl⟩ : ∃ k : Nat, i = (k : Int) := ⟨i.toNat, by omega⟩
    by_cases h1 : (k : Int) < (n : Int)
    · obtain ⟨b, o, rfl, hk⟩ := hc k (by omega)
      have hS : Hid (fsB n g (k : Int) = g k) := stB_nat (by omega)
      clear hc
      generalize g k = z at *
      go_enter Tryz.func58, Tryz.ntmps58
      go_wp2
      go_ret
      exact ⟨by rw [hS.out]; rfl, rfl⟩
    · have hS : Hid (fsB n g (k : Int) = false) := stB_big h1
      clear hc
      go_enter Tryz.func58, Tryz.ntmps58
      go_wp2
      go_ret
      exact ⟨by rw [hS.out]; rfl, rfl⟩
  · have hS : Hid (fsB n g i = false) := stB_neg h0
    clear hc
    go_enter Tryz.func58, Tryz.ntmps58
    go_wp2
    go_ret
    exact ⟨by rw [hS.out]; rfl, rfl⟩
set_option maxHeartbeats 400000 in
theorem flag13 (v : Value) (n : Nat) (g : Nat → Bool) (i : Int) (w : World) (h : Bs w v n g) :
    Calls Tryz.prog 53 #[v, .int .i64 i] w fun e w' => e = .returned (.bool (fsB n g i)) ∧ w' = w := by
  obtain ⟨A, c, rfl, _, _, hc⟩ := h
  by_cases h0 : 0 ≤ i
  · obtain ⟨k, rfl⟩ : ∃ k : Nat, i = (k : Int) := ⟨i.toNat, by omega⟩
    by_cases h1 : (k : Int) < (n : Int)
    · obtain ⟨b, o, rfl, hk⟩ := hc k (by omega)
      have hS : Hid (fsB n g (k : Int) = g k) := stB_nat (by omega)
      clear hc
      generalize g k = z at *
      go_enter Tryz.func53, Tryz.ntmps53
      go_wp2
      go_ret
      exact ⟨by rw [hS.out]; rfl, rfl⟩
    · have hS : Hid (fsB n g (k : Int) = false) := stB_big h1
      clear hc
      go_enter Tryz.func53, Tryz.ntmps53
      go_wp2
      go_ret
      exact ⟨by rw [hS.out]; rfl, rfl⟩
  · have hS : Hid (fsB n g i = false) := stB_neg h0
    clear hc
    go_enter Tryz.func53, Tryz.ntmps53
    go_wp2
    go_ret
    exact ⟨by rw [hS.out]; rfl, rfl⟩

/-- what a rule says, by its kind, and whether its flag is set -/
def sayI (k : Int) (s : Bool) : Int := if k = 0 then 0 else if k = 2 then (if s then 0 else 1) else if k = 3 then 2 else if k = 4 then (if s then 0 else 2) else 1
def toT (k : Int) (s : Bool) (t : ByteArray) : ByteArray := if k = 3 then t else if k = 4 then (if s then ⟨#[]⟩ else t) else ⟨#[]⟩
theorem kinds (k : Int) : k = 0 ∨ k = 1 ∨ k = 2 ∨ k = 3 ∨ k = 4 ∨ (¬ k = 0 ∧ ¬ k = 1 ∧ ¬ k = 2 ∧ ¬ k = 3 ∧ ¬ k = 4) := by omega

theorem belN {B : Nat} {a w : World} (h : Below B a w) (q : Nat) : Below B a (w.drewN q) := ⟨h.os, h.tape, h.output, h.size, h.block⟩

def AskPost (r : Rl) (n : Nat) (g : Nat → Bool) (w : World) (e : Ending) (w' : World) : Prop :=
  e = .returned (.tuple #[.int .i64 (sayI r.k (fsB n g r.f)), .string (toT r.k (fsB n g r.f) r.t)]) ∧ Below w.heap.size w w'

set_option maxHeartbeats 1600000 in
theorem ask7 (r : Rl) (v : Value) (n : Nat) (g : Nat → Bool) (w : World) (h : Bs w v n g) :
    Calls Tryz.prog 36 #[.agg #[.int .i64 r.k, .int .i64 r.f, .string r.t], v] w (AskPost r n g w) := by
  obtain ⟨k, f, t⟩ := r
  dsimp only
  unfold AskPost
  have HB := Lib.hid ((Below.refl w.heap.size w).alloc (Nat.le_refl _) (.cells #[.int .i64 k, .int .i64 f, .string t] 23 (0, 0)))
  have HS := Lib.hid (h.call HB.out)
  obtain ⟨A, c, rfl⟩ := h.shape
  clear h
  generalize hs : fsB n g f = s at *
  have E := Lib.hid hs
  clear hs
  rcases kinds k with rfl | rfl | rfl | rfl | rfl | ⟨k0, k1, k2, k3, k4⟩
  · go_enter Tryz.func36, Tryz.ntmps36
    go_wp2_with fail
    go_ret2
    exact ⟨rfl, HB.out⟩
  · go_enter Tryz.func36, Tryz.ntmps36
    go_wp2_with fail
    go_ret2
    exact ⟨rfl, HB.out⟩
  · cases s
    · go_enter Tryz.func36, Tryz.ntmps36
      go_wp2_with (first | (go_at_call 58; refine (isSet12 _ _ _ _ _ HS.out).mono ?_; rintro e w' ⟨rfl, rfl⟩; rw [E.out]))
      go_ret2
      exact ⟨rfl, HB.out⟩
    · go_enter Tryz.func36, Tryz.ntmps36
      go_wp2_with (first | (go_at_call 58; refine (isSet12 _ _ _ _ _ HS.out).mono ?_; rintro e w' ⟨rfl, rfl⟩; rw [E.out]))
      go_ret2
      exact ⟨rfl, HB.out⟩
  · go_enter Tryz.func36, Tryz.ntmps36
    go_wp2_with fail
    go_quiet (fail)
    go_wp2_with fail
    go_ret2
    exact ⟨rfl, belN HB.out _⟩
  · cases s
    · go_enter Tryz.func36, Tryz.ntmps36
      go_wp2_with (first | (go_at_call 58; refine (isSet12 _ _ _ _ _ HS.out).mono ?_; rintro e w' ⟨rfl, rfl⟩; rw [E.out]))
      go_quiet (fail)
      go_wp2_with fail
      go_ret2
      exact ⟨rfl, belN HB.out _⟩
    · go_enter Tryz.func36, Tryz.ntmps36
      go_wp2_with (first | (go_at_call 58; refine (isSet12 _ _ _ _ _ HS.out).mono ?_; rintro e w' ⟨rfl, rfl⟩; rw [E.out]))
      go_ret2
      exact ⟨rfl, HB.out⟩
  · go_enter Tryz.func36, Tryz.ntmps36
    go_wp2_with fail
    go_ret2
    refine ⟨?_, HB.out⟩
    simp [sayI, toT, k0, k2, k3, k4]

set_option maxHeartbeats 1600000 in
theorem ask8 (r : Rl) (v : Value) (n : Nat) (g : Nat → Bool) (w : World) (h : Bs w v n g) :
    Calls Tryz.prog 32 #[.agg #[.int .i64 r.k, .int .i64 r.f, .string r.t], v] w (AskPost r n g w) := by
  obtain ⟨k, f, t⟩ := r
  dsimp only
  unfold AskPost
  have HB := Lib.hid ((Below.refl w.heap.size w).alloc (Nat.le_refl _) (.cells #[.int .i64 k, .int .i64 f, .string t] 23 (0, 0)))
  have HS := Lib.hid (h.call HB.out)
  obtain ⟨A, c, rfl⟩ := h.shape
  clear h
  generalize hs : fsB n g f = s at *
  have E := Lib.hid hs
  clear hs
  rcases kinds k with rfl | rfl | rfl | rfl | rfl | ⟨k0, k1, k2, k3, k4⟩
  · go_enter Tryz.func32, Tryz.ntmps32
    go_wp2_with fail
    go_ret2
    exact ⟨rfl, HB.out⟩
  · go_enter Tryz.func32, Tryz.ntmps32
    go_wp2_with fail
    go_ret2
    exact ⟨rfl, HB.out⟩
  · cases s
    · go_enter Tryz.func32, Tryz.ntmps32
      go_wp2_with (first | (go_at_call 53; refine (flag13 _ _ _ _ _ HS.out).mono ?_; rintro e w' ⟨rfl, rfl⟩; rw [E.out]))
      go_ret2
      exact ⟨rfl, HB.out⟩
    · go_enter Tryz.func32, Tryz.ntmps32
      go_wp2_with (first | (go_at_call 53; refine (flag13 _ _ _ _ _ HS.out).mono ?_; rintro e w' ⟨rfl, rfl⟩; rw [E.out]))
      go_ret2
      exact ⟨rfl, HB.out⟩
  · go_enter Tryz.func32, Tryz.ntmps32
    go_wp2_with fail
    go_quiet (fail)
    go_wp2_with fail
    go_ret2
    exact ⟨rfl, belN HB.out _⟩
  · cases s
    · go_enter Tryz.func32, Tryz.ntmps32
      go_wp2_with (first | (go_at_call 53; refine (flag13 _ _ _ _ _ HS.out).mono ?_; rintro e w' ⟨rfl, rfl⟩; rw [E.out]))
      go_quiet (fail)
      go_wp2_with fail
      go_ret2
      exact ⟨rfl, belN HB.out _⟩
    · go_enter Tryz.func32, Tryz.ntmps32
      go_wp2_with (first | (go_at_call 53; refine (flag13 _ _ _ _ _ HS.out).mono ?_; rintro e w' ⟨rfl, rfl⟩; rw [E.out]))
      go_ret2
      exact ⟨rfl, HB.out⟩
  · have q0 : (k == 0) = false := by simpa using k0
    have q2 : (k == 2) = false := by simpa using k2
    have q3 : (k == 3) = false := by simpa using k3
    have q4 : (k == 4) = false := by simpa using k4
    go_enter Tryz.func32, Tryz.ntmps32
    go_wp2_with fail
    go_ret2
    refine ⟨?_, HB.out⟩
    simp [sayI, toT, k0, k2, k3, k4]

end Go.Proofs.YthigandmemifoaaGreatDoor
