/-
  The text of a tree: addText, addTree, Print.
-/
import Derived.Test.YtolklphenllhpaaWit
import Derived.Lib.AppendStr
namespace Go.Proofs.Ytolklphenllhpaa
open Go.RowKit Go.PlainAid
set_option maxRecDepth 100000

/-- a []byte of the call's own, and what it holds -/
def Byt (v : Value) (xs : List Int) (w : World) : Prop := w.ownsRow 0 5 1 v xs.length (xs.map (Value.int .u8))
/-- from v at w to v' at w': just v's block may have turned, and the block of v' is v's or a new one -/
structure Grw (w w' : World) (v v' : Value) : Prop where
  kp : Kp (fun k => v.ownBlock = some k) w w'
  own : ∀ g, v'.ownBlock = some g → v.ownBlock = some g ∨ w.heap.size ≤ g
theorem Grw.refl (w : World) (v : Value) : Grw w w v v := ⟨Kp.refl _ w, fun _ h => Or.inl h⟩
theorem Grw.trans {a b c : World} {u v x : Value} (h : Grw a b u v) (k : Grw b c v x) : Grw a c u x :=
  ⟨h.kp.trans k.kp (fun i hi e => (h.own i e).resolve_right (by omega)), fun g e => by
    rcases k.own g e with e | e
    · exact h.own g e
    · have := h.kp.size
      exact Or.inr (by omega)⟩
theorem Grw.below {a b c : World} {u v : Value} (h : Grw a b u v) (k : Below b.heap.size b c) : Grw a c u v := h.trans ⟨Kp.of_below k _, fun _ e => Or.inl e⟩
theorem Grw.pre {a b c : World} {u v : Value} (k : Below a.heap.size a b) (h : Grw b c u v) : Grw a c u v :=
  Grw.trans (b := b) ⟨Kp.of_below k _, fun _ e => Or.inl e⟩ h
theorem Grw.blk {w w' : World} {v v' : Value} (h : Grw w w' v v') {T : Nat} {o : Obj} (hT : w.heap[T]? = some o) (hv : v.ownBlock ≠ some T) : w'.heap[T]? = some o ∧ v'.ownBlock ≠ some T :=
  ⟨(h.kp.block T (blk_lt hT) hv).trans hT, fun e => by
    have := blk_lt hT
    rcases h.own T e with e | e
    · exact hv e
    · omega⟩
theorem Byt.below {v : Value} {xs : List Int} {w w' : World} (h : Byt v xs w) (hb : Below w.heap.size w w') : Byt v xs w' := owns_same h (fun g hg => hb.block g (h.lt g hg).2)
theorem Byt.lt {v : Value} {xs : List Int} {w : World} (h : Byt v xs w) : ∀ g, v.ownBlock = some g → g < w.heap.size := fun g hg => (World.ownsRow.lt h g hg).2
theorem byt_nil (w : World) : Byt (.slice none 0 0) [] w := World.ownsRow_nil _ _ _ _
theorem byt_app {v' : Value} {xs ys : List Int} {w' : World} (m : Nat) (hm : ys.length = m) (h : w'.ownsRow 0 5 1 v' (xs.length + m) (xs.map (Value.int .u8) ++ ys.map (Value.int .u8))) : Byt v' (xs ++ ys) w' := by
  unfold Byt
  rw [List.length_append, hm, List.map_append]
  exact h
theorem grw_app {w w' : World} {v v' : Value} {k : Nat} (hg : w.grownBy w' v.ownBlock) (hv : v'.ownBlock = v.ownBlock ∨ v'.ownBlock = some k) (hk : w.heap.size ≤ k) : Grw w w' v v' :=
  ⟨(Kp.refl _ w).grown hg (fun k _ e => e), fun g e => by
    rcases hv with h | h
    · rw [h] at e; exact Or.inl e
    · rw [h] at e; cases e; exact Or.inr hk⟩
theorem u8_one (ys : List Int) : ∀ u ∈ ys.map (Value.int .u8), u.oneCell' = true := by
  intro u hu
  simp only [List.mem_map] at hu
  obtain ⟨y, _, rfl⟩ := hu
  rfl
theorem app_string_at {P : Program} (w : World) (base : Nat) (t u ty e : TypeId) (i : TypeInfo) (ht : P.underlying t = some (.slice e)) (hu : P.underlying u = some .string) (hi : P.info? e = some i) (hz : i.zero = some (.int .u8 0))
    (hsize : i.size = 1) (hby : i.bytes = 1) (v : Value) (n : Nat) (xs : List Value) (hown : w.ownsRow base e 1 v n xs) (s : ByteArray)
    (h63 : n + s.size ≤ maxLen) (hbytes : n + s.size ≤ 200000000) (hbase : base ≤ w.heap.size) (hv : v.ownBlock ≠ none) :
    ∃ v' w', (Builtin.append_ #[t, u] ty #[v, .string s]).run P w = .ok v' w' ∧ w'.ownsRow base e 1 v' (n + s.size) (xs ++ Lib.strCells s) ∧ w.grownBy w' v.ownBlock ∧
      (v'.ownBlock = v.ownBlock ∨ v'.ownBlock = some w.heap.size) := by
  obtain ⟨v', w', hr, h2, h3, _⟩ := Lib.run_append_own_string (P := P) w base t u ty e i ht hu hi hz hsize hby v n xs hown s h63 (by omega) hbase
  refine ⟨v', w', hr, h2, h3, ?_⟩
  have hcells := @World.ownsRow.cells _ _ _ _ _ _ _ hown
  obtain ⟨hl, ⟨rfl, h1⟩ | ⟨g, cap, cur, rfl, _, hg, hnc, _, hcs, _⟩⟩ := hown
  · exact absurd rfl hv
  · by_cases hroom : n + s.size ≤ cap
    · have := Lib.run_append_room_string (P := P) w t u ty e i ht hu hi hsize g n cap cur hg s hroom (by omega)
      rw [this] at hr
      injection hr with e1 _
      subst e1
      exact Or.inl rfl
    · have hle : Builtin.nextslicecap (n + s.size) cap * i.bytes ≤ 281474976710656 := growslice_fits (by omega) (by rw [hby]; omega)
      have := Lib.run_append_grow_string (P := P) w t u ty e i (.int .u8 0) ht hu hi hz ⟨g, 0, none⟩ n cap xs (by rw [hl, hsize]) (fun j u h => hcells rfl j u h) s (by omega) (by unfold maxLen at h63; omega) hle
      rw [this] at hr
      injection hr with e1 _
      subst e1
      exact Or.inr rfl

theorem wp_b {o : Oper} {a : Act} {K : Act → World → Prop} {Q : Exit → Act → World → Prop} (w : World) (s x : Operand)
    (ho : o.op = .call { callee := .builtin .append, args := #[s, x], argTypes := #[42, 42] }) (v : Value) (xs : List Int) (hs : a.eval s = v) (hown : Byt v xs w)
    (b m c : Nat) (ys : List Int) (hx : a.eval x = .slice (some ⟨b, 0, none⟩) m c) (hm : ys.length = m) (hb : w.heap[b]? = some (.cells (ys.map (Value.int .u8)).toArray 5 (0, 0))) (hn : xs.length ≤ 100000000) (hm1 : m ≤ 100)
    (h : ∀ v' w', Byt v' (xs ++ ys) w' → Grw w w' v v' → K (a.put o.dst v') w') : o.wp Try.prog a w K Q :=
  wp_app elB w s x ho 0 v xs.length _ hs hown (Nat.zero_le _) ⟨b, 0, none⟩ m c (ys.map (Value.int .u8)) hx (by simp [hm]) (by have := World.news_of_block hb; simpa using this) (u8_one ys) hn (by omega) (fun v' w' h1 hg hv => h v' w' (byt_app m hm h1) (grw_app hg hv (Nat.le_refl _)))
theorem wpList_b {ops : Array Oper} {rest : List Oper} {o : Oper} {a : Act} {Q : Exit → Act → World → Prop} (w : World) (hgd : o.guard = none) (s x : Operand)
    (ho : o.op = .call { callee := .builtin .append, args := #[s, x], argTypes := #[42, 42] }) (v : Value) (xs : List Int) (hs : a.eval s = v) (hown : Byt v xs w)
    (b m c : Nat) (ys : List Int) (hx : a.eval x = .slice (some ⟨b, 0, none⟩) m c) (hm : ys.length = m) (hb : w.heap[b]? = some (.cells (ys.map (Value.int .u8)).toArray 5 (0, 0))) (hn : xs.length ≤ 100000000) (hm1 : m ≤ 100)
    (h : ∀ v' w', Byt v' (xs ++ ys) w' → Grw w w' v v' → wpList Try.prog ops Q rest (a.put o.dst v') w') : wpList Try.prog ops Q (o :: rest) a w :=
  wpList_plain hgd fun _ hK => wp_b w s x ho v xs hs hown b m c ys hx hm hb hn hm1 fun v' w' h1 h2 => hK _ _ (h v' w' h1 h2)
/-- append(v, s...) -/
theorem wp_bs {o : Oper} {a : Act} {K : Act → World → Prop} {Q : Exit → Act → World → Prop} (w : World) (sl x : Operand)
    (ho : o.op = .call { callee := .builtin .append, args := #[sl, x], argTypes := #[42, 9] }) (v : Value) (xs : List Int) (hs : a.eval sl = v) (hown : Byt v xs w) (hv : v.ownBlock ≠ none)
    (s : Tx) (hx : a.eval x = .string s) (hn : xs.length ≤ 100000000) (hm1 : s.size ≤ 100000000)
    (h : ∀ v' w', Byt v' (xs ++ bs s) w' → Grw w w' v v' → v'.ownBlock ≠ none → K (a.put o.dst v') w') : o.wp Try.prog a w K Q := by
  obtain ⟨i0, hi, hz0, hz1, hz2⟩ := info_parts elB.info
  obtain ⟨v', w', hr, h2, h3, h5⟩ := app_string_at (P := Try.prog) w 0 42 9 o.type 5 i0 Try.underlying42 Try.underlying9 hi hz0 hz1 hz2 v xs.length _ hown s (by unfold maxLen; omega) (by omega) (Nat.zero_le _) hv
  unfold Oper.wp execOp
  simp only [ho, resolve, invoke, builtin, Sem.run_bind, Sem.run_pure, Result.andThen_ok, List.map_toArray, List.map_cons, List.map_nil, hs, hx, hr]
  refine h v' w' ?_ (grw_app h3 h5 (Nat.le_refl _)) ?_
  · have e : Lib.strCells s = (bs s).map (Value.int .u8) := by simp [Lib.strCells, bs]
    unfold Byt
    rw [List.length_append, bs_len, List.map_append, ← e]
    exact h2
  · rcases h5 with h5 | h5
    · rw [h5]; exact hv
    · rw [h5]; intro e; cases e
theorem bsAt (s : ByteArray) (k : Nat) (h : k < s.size) : (bs s).take (k + 1) = (bs s).take k ++ [bt s k] := by
  have h' : k < (bs s).length := by rw [bs_len]; exact h
  rw [List.take_add_one]
  have := bs_at s k
  rw [← this]
  simp [List.getD, h']
theorem esc_len (l : List Int) : (l.flatMap escL).length ≤ 2 * l.length := by
  induction l with
  | nil => simp
  | cons c l ih =>
    rw [List.flatMap_cons, List.length_append, List.length_cons]
    have : (escL c).length ≤ 2 := by unfold escL; split <;> simp
    omega
theorem qt_len (s : Tx) : (qtL s).length ≤ 2 * s.size + 2 := by
  unfold qtL
  have := esc_len (bs s)
  rw [bs_len] at this
  rw [List.length_cons, List.length_append, List.length_singleton]
  omega
/-- what addText and addTree leave -/
def PrnP (v : Value) (xs : List Int) (w : World) (e : Ending) (w' : World) : Prop := ∃ v', e = .returned v' ∧ Byt v' xs w' ∧ Grw w w' v v'

set_option maxHeartbeats 12800000 in
theorem addText28 (v : Value) (xs : List Int) (s : Tx) (w : World) (h : Byt v xs w) (hx : xs.length ≤ 10000000) (hs : s.size ≤ 1000000) : Calls Try.prog 28 #[v, .string s] w (PrnP v (xs ++ qtL s) w) := by
  have gb := get_bt s
  have O0 := Lib.hid (h.below ((Below.refl _ w).alloc (Nat.le_refl _) (.cells #[.int .u8 34] 5 (0, 0))))
  have G0 := Lib.hid ((Grw.refl w v).below ((Below.refl _ w).alloc (Nat.le_refl _) (.cells #[.int .u8 34] 5 (0, 0))))
  clear h
  go_enter Try.func28, Try.ntmps28
  go_wp2_with (at_builtin; go_loud (refine wpList_b _ rfl _ _ rfl v _ rfl O0.out w.heap.size 1 1 [34] rfl rfl (blk_new w _) (by omega) (by omega) ?_))
  intro v1 w1 h1 hg1
  have O1 := Lib.hid h1
  have G1 := Lib.hid (G0.out.trans hg1)
  clear h1 hg1 O0 G0
  go_wp2_with fail
  go_loopw [0, 11] (fun p0 p11 wr => ∃ (j : Nat), j ≤ s.size ∧ p11 = .int .i64 j ∧ Hid (Byt p0 (xs ++ 34 :: ((bs s).take j).flatMap escL) wr) ∧ Hid (Grw w wr v p0)) (fun _ p _ => s.size - (intOf p).toNat)
  case atStart => exact ⟨0, Nat.zero_le _, rfl, O1.out, G1.out⟩
  case round =>
    obtain ⟨j, hj, rfl, HO, HG⟩ := hrel
    clear O1 G1
    have hL : (xs ++ 34 :: ((bs s).take j).flatMap escL).length ≤ 20000000 := by
      have := esc_len ((bs s).take j)
      have e : ((bs s).take j).length ≤ s.size := by rw [List.length_take, bs_len]; omega
      rw [List.length_append, List.length_cons]
      omega
    by_cases hlt : j < s.size
    · have d0 : (j : Int) < (s.size : Int) := by omega
      have HX : Hid (xs ++ 34 :: ((bs s).take (j + 1)).flatMap escL = (xs ++ 34 :: ((bs s).take j).flatMap escL) ++ escL (bt s j)) := by
        rw [Hid, bsAt s j hlt, List.flatMap_append]; simp
      have gj := gb j
      clear gb
      generalize bt s j = c at *
      generalize xs ++ 34 :: ((bs s).take j).flatMap escL = ys at *
      by_cases hc : c = 34 ∨ c = 92
      · have HZ : Hid (xs ++ 34 :: ((bs s).take (j + 1)).flatMap escL = ys ++ [92, c]) := by rw [Hid, HX.out, show escL c = [92, c] from if_pos hc]
        have O2 := Lib.hid (HO.out.below ((Below.refl _ wr).alloc (Nat.le_refl _) (.cells #[.int .u8 92] 5 (0, 0))))
        have G2 := Lib.hid (HG.out.below ((Below.refl _ wr).alloc (Nat.le_refl _) (.cells #[.int .u8 92] 5 (0, 0))))
        have q12 : (c == 34) = true ∨ ((c == 34) = false ∧ (c == 92) = true) := by
          rcases hc with rfl | rfl
          · exact Or.inl rfl
          · exact Or.inr ⟨rfl, rfl⟩
        clear hc
        rcases q12 with q1 | ⟨q1, q2⟩
        all_goals
          go_wp2_with (at_builtin; go_loud (refine wpList_b _ rfl _ _ rfl u0 _ rfl O2.out wr.heap.size 1 1 [92] rfl rfl (blk_new wr _) (by omega) (by omega) ?_))
          intro v3 w3 h3 hg3
          have O3 := Lib.hid h3
          have G3 := Lib.hid (G2.out.trans hg3)
          clear h3 hg3 O2 G2
          have O4 := Lib.hid (O3.out.below ((Below.refl _ w3).alloc (Nat.le_refl _) (.cells #[.int .u8 c] 5 (0, 0))))
          have G4 := Lib.hid (G3.out.below ((Below.refl _ w3).alloc (Nat.le_refl _) (.cells #[.int .u8 c] 5 (0, 0))))
          clear O3 G3
          go_wp2_with (at_builtin; go_loud (refine wpList_b _ rfl _ _ rfl v3 _ rfl O4.out w3.heap.size 1 1 [c] rfl rfl (blk_new w3 _) (by (try rw [List.length_append]); (try simp); omega) (by omega) ?_))
          intro v5 w5 h5 hg5
          have O5 := h5
          have G5 := Lib.hid (G4.out.trans hg5)
          clear h5 hg5 O4 G4
          rw [← HZ.out] at O5
          replace O5 := Lib.hid O5
          go_wp2_with fail
          go_roundw
          case rel => exact ⟨j + 1, by omega, by go_num, O5, G5⟩
          case measure => simp [intOf]; omega
      · have HZ : Hid (xs ++ 34 :: ((bs s).take (j + 1)).flatMap escL = ys ++ [c]) := by rw [Hid, HX.out, show escL c = [c] from if_neg hc]
        have O3 := HO
        have G3 := HG
        have q1 : (c == 34) = false := beqF (fun e => hc (Or.inl e))
        have q2 : (c == 92) = false := beqF (fun e => hc (Or.inr e))
        clear hc
        generalize wr = w3 at *
        generalize u0 = v3 at *
        have O4 := Lib.hid (O3.out.below ((Below.refl _ w3).alloc (Nat.le_refl _) (.cells #[.int .u8 c] 5 (0, 0))))
        have G4 := Lib.hid (G3.out.below ((Below.refl _ w3).alloc (Nat.le_refl _) (.cells #[.int .u8 c] 5 (0, 0))))
        clear O3 G3
        go_wp2_with (at_builtin; go_loud (refine wpList_b _ rfl _ _ rfl v3 _ rfl O4.out w3.heap.size 1 1 [c] rfl rfl (blk_new w3 _) (by (try rw [List.length_append]); (try simp); omega) (by omega) ?_))
        intro v5 w5 h5 hg5
        have O5 := h5
        have G5 := Lib.hid (G4.out.trans hg5)
        clear h5 hg5 O4 G4
        rw [← HZ.out] at O5
        replace O5 := Lib.hid O5
        go_wp2_with fail
        go_roundw
        case rel => exact ⟨j + 1, by omega, by go_num, O5, G5⟩
        case measure => simp [intOf]; omega
    · obtain rfl : j = s.size := by omega
      have HX : Hid (xs ++ qtL s = (xs ++ 34 :: ((bs s).take s.size).flatMap escL) ++ [34]) := by
        rw [List.take_of_length_le (by rw [bs_len]; omega), Hid, qtL]; simp
      generalize xs ++ 34 :: ((bs s).take s.size).flatMap escL = ys at *
      have O2 := Lib.hid (HO.out.below ((Below.refl _ wr).alloc (Nat.le_refl _) (.cells #[.int .u8 34] 5 (0, 0))))
      have G2 := Lib.hid (HG.out.below ((Below.refl _ wr).alloc (Nat.le_refl _) (.cells #[.int .u8 34] 5 (0, 0))))
      go_wp2_with (at_builtin; go_loud (refine wpList_b _ rfl _ _ rfl u0 _ rfl O2.out wr.heap.size 1 1 [34] rfl rfl (blk_new wr _) (by omega) (by omega) ?_))
      intro v3 w3 h3 hg3
      have O3 := h3
      have G3 := G2.out.trans hg3
      rw [← HX.out] at O3
      clear h3 hg3 O2 G2 HX
      go_wp2_with fail
      go_ret
      exact ⟨_, rfl, O3, G3⟩
end Go.Proofs.Ytolklphenllhpaa
