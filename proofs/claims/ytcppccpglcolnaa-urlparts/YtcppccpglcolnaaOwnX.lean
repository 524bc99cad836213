/-
  A []byte of the call's own beside a block that stays as it is.
-/
import Derived.Test.YtcppccpglcolnaaRowsOf
import Derived.Test.YtcppccpglcolnaaKp
namespace Go.Proofs.Ytcppccpglcolnaa
open Go.RowKit Go.PlainAid

/-- v holds the bytes xs in a block of the call's own that isn't b; b holds o -/
def OwnX (B : Nat) (w0 : World) (v : Value) (xs : List Int) (w : World) (b : Nat) (o : Obj) : Prop :=
  Own B w0 v xs w ∧ w.heap[b]? = some o ∧ v.ownBlock ≠ some b ∧ v.ownBlock ≠ none

section
variable {B : Nat} {w0 : World} {v : Value} {xs : List Int} {w : World} {b : Nat} {o : Obj}
theorem OwnX.alloc (h : OwnX B w0 v xs w b o) (x : Obj) : OwnX B w0 v xs (w.alloc x) b o := ⟨h.1.alloc x, blk_alloc h.2.1 x, h.2.2⟩
theorem OwnX.call {w' : World} (h : OwnX B w0 v xs w b o) (hb : Below w.heap.size w w') : OwnX B w0 v xs w' b o := ⟨h.1.call hb, blk_call h.2.1 hb, h.2.2⟩
theorem Own.beside (h : Own B w0 v xs w) (hv : v.ownBlock ≠ none) (x : Obj) : OwnX B w0 v xs (w.alloc x) w.heap.size x :=
  ⟨h.alloc x, blk_new w x, fun e => by have := (h.1.lt _ e).2; omega, hv⟩
end

theorem app_string_at {P : Program} (w : World) (base : Nat) (t u ty e : TypeId) (i : TypeInfo) (ht : P.underlying t = some (.slice e)) (hu : P.underlying u = some .string) (hi : P.info? e = some i) (hz : i.zero = some (.int .u8 0))
    (hsize : i.size = 1) (hby : i.bytes = 1) (v : Value) (n : Nat) (xs : List Value) (hown : w.ownsRow base e 1 v n xs) (s : ByteArray)
    (h63 : n + s.size ≤ maxLen) (hbytes : n + s.size ≤ 1000000) (hbase : base ≤ w.heap.size) (hv : v.ownBlock ≠ none) :
    ∃ v' w', (Builtin.append_ #[t, u] ty #[v, .string s]).run P w = .ok v' w' ∧ w'.ownsRow base e 1 v' (n + s.size) (xs ++ Lib.strCells s) ∧ w.grownBy w' v.ownBlock ∧
      (v'.ownBlock = v.ownBlock ∨ v'.ownBlock = some w.heap.size) := by
  obtain ⟨v', w', hr, h2, h3, _⟩ := Lib.run_append_own_string (P := P) w base t u ty e i ht hu hi hz hsize hby v n xs hown s h63 (by omega) hbase
  refine ⟨v', w', hr, h2, h3, ?_⟩
  have hcells := @World.ownsRow.cells _ _ _ _ _ _ _ hown
  obtain ⟨hl, ⟨rfl, h1⟩ | ⟨g, cap, cur, rfl, _, hg, hnc, _, hcs, _⟩⟩ := hown
  · exact absurd rfl hv
  · by_cases hroom : n + s.size ≤ cap
    · have := Lib.run_append_room_string (P := P) w t u ty e i ht hu hi hsize g n cap cur hg s hroom (by omega)
      rw [this] at hr
      injection hr with e1 _
      subst e1
      exact Or.inl rfl
    · have hle : Builtin.nextslicecap (n + s.size) cap * i.bytes ≤ 281474976710656 := growslice_fits (by omega) (by rw [hby]; omega)
      have := Lib.run_append_grow_string (P := P) w t u ty e i (.int .u8 0) ht hu hi hz ⟨g, 0, none⟩ n cap xs (by rw [hl, hsize]) (fun j u h => hcells rfl j u h) s (by omega) (by unfold maxLen at h63; omega) hle
      rw [this] at hr
      injection hr with e1 _
      subst e1
      exact Or.inr rfl

/-- append(v, c) -/
theorem wpList_appX {ops : Array Oper} {rest : List Oper} {o : Oper} {a : Act} {Q : Exit → Act → World → Prop} (w : World) (hgd : o.guard = none) (s x : Operand)
    (ho : o.op = .call { callee := .builtin .append, args := #[s, x], argTypes := #[47, 47] })
    (B : Nat) (w0 : World) (v : Value) (xs : List Int) (bx : Nat) (ob : Obj) (hs : a.eval s = v) (hown : OwnX B w0 v xs w bx ob) (hn : xs.length ≤ 100000)
    (b m c : Nat) (ys : List Int) (hx : a.eval x = .slice (some ⟨b, 0, none⟩) m c) (hm : ys.length = m) (hm1 : m ≤ 10) (hb : w.heap[b]? = some (.cells (ys.map (Value.int .u8)).toArray 5 (0, 0)))
    (h : ∀ v' w', OwnX B w0 v' (xs ++ ys) w' bx ob → wpList Try.prog ops Q rest (a.put o.dst v') w') : wpList Try.prog ops Q (o :: rest) a w := by
  refine wpList_plain hgd fun _ hK => ?_
  obtain ⟨i0, hi, hz0, hz1, hz2⟩ := info_parts info5
  obtain ⟨hown, hb1, hb2, hb3⟩ := hown
  have hr := run_append_own_at (P := Try.prog) w B 47 o.type 5 i0 (.int .u8 0) 1 1 Try.underlying47 hi hz0 hz1 hz2 rfl (by omega) v xs.length _ hown.1 ⟨b, 0, none⟩ m c (ys.map (Value.int .u8)) (by simp [hm]) (World.news_of_block hb) (bytes_one ys) (by unfold maxLen; omega) (by omega) hown.2.2
  obtain ⟨v', w', hr, h2, h3, _, h5⟩ := hr
  unfold Oper.wp execOp
  simp only [ho, resolve, invoke, builtin, Sem.run_bind, Sem.run_pure, Result.andThen_ok, List.map_toArray, List.map_cons, List.map_nil, hs, hx, hr]
  refine hK _ _ (h v' w' ⟨⟨?_, hown.2.1.grown h3 hown.2.2 (fun k hk => (hown.1.lt k hk).1), by have := h3.size; have := hown.2.2; omega⟩, ?_, ?_, ?_⟩)
  · rw [List.length_append, List.map_append, hm]
    exact h2
  · rw [h3.block bx (blk_lt hb1) (fun e => hb2 e.symm)]; exact hb1
  · rcases h5 with h5 | h5
    · rw [h5]; exact hb2
    · rw [h5]; intro e; injection e with e; have := blk_lt hb1; omega
  · rcases h5 with h5 | h5
    · rw [h5]; exact hb3
    · rw [h5]; intro e; cases e
/-- append(v, t...) -/
theorem wpList_appTX {ops : Array Oper} {rest : List Oper} {o : Oper} {a : Act} {Q : Exit → Act → World → Prop} (w : World) (hgd : o.guard = none) (sl x : Operand)
    (ho : o.op = .call { callee := .builtin .append, args := #[sl, x], argTypes := #[47, 9] })
    (B : Nat) (w0 : World) (v : Value) (xs : List Int) (bx : Nat) (ob : Obj) (hs : a.eval sl = v) (hown : OwnX B w0 v xs w bx ob) (hn : xs.length ≤ 100000) (s : ByteArray) (hx : a.eval x = .string s) (hm : s.size ≤ 100000)
    (h : ∀ v' w', OwnX B w0 v' (xs ++ bs s) w' bx ob → wpList Try.prog ops Q rest (a.put o.dst v') w') : wpList Try.prog ops Q (o :: rest) a w := by
  refine wpList_plain hgd fun _ hK => ?_
  obtain ⟨i0, hi, hz0, hz1, hz2⟩ := info_parts info5
  obtain ⟨hown, hb1, hb2, hb3⟩ := hown
  have hr := app_string_at (P := Try.prog) w B 47 9 o.type 5 i0 Try.underlying47 Try.underlying9 hi hz0 hz1 hz2 v xs.length _ hown.1 s (by unfold maxLen; omega) (by omega) hown.2.2 hb3
  obtain ⟨v', w', hr, h2, h3, h5⟩ := hr
  unfold Oper.wp execOp
  simp only [ho, resolve, invoke, builtin, Sem.run_bind, Sem.run_pure, Result.andThen_ok, List.map_toArray, List.map_cons, List.map_nil, hs, hx, hr]
  refine hK _ _ (h v' w' ⟨⟨?_, hown.2.1.grown h3 hown.2.2 (fun k hk => (hown.1.lt k hk).1), by have := h3.size; have := hown.2.2; omega⟩, ?_, ?_, ?_⟩)
  · have e : Lib.strCells s = (bs s).map (Value.int .u8) := by simp [Lib.strCells, bs]
    rw [List.length_append, bs_len, List.map_append, ← e]
    exact h2
  · rw [h3.block bx (blk_lt hb1) (fun e => hb2 e.symm)]; exact hb1
  · rcases h5 with h5 | h5
    · rw [h5]; exact hb2
    · rw [h5]; intro e; injection e with e; have := blk_lt hb1; omega
  · rcases h5 with h5 | h5
    · rw [h5]; exact hb3
    · rw [h5]; intro e; cases e
end Go.Proofs.Ytcppccpglcolnaa
