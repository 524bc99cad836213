/-
  Put together: TvM, TvF, TvG.
-/
import Derived.Test.YthigandmemifoaaGreatDoorP35
import Derived.Test.YthigandmemifoaaGreatDoorP09
namespace Go.Proofs.YthigandmemifoaaGreatDoor
open Go.RowKit Go.PlainAid
set_option maxRecDepth 100000

set_option maxHeartbeats 6400000 in
theorem chain24o (v : Value) (l : List Rc) (i : Int) (w : World) (h : Rs w v l) (hz : l.length ≤ 1000) :
    Calls Tryz.prog 41 #[v, .int .i64 i] w fun e w' => ∃ u, e = .returned u ∧ OwnI w.heap.size w u (chL l i) w' := by
  have HS := Lib.hid h
  obtain ⟨A, cap, rfl⟩ := h.len
  clear h
  have HZ := Lib.hid hz
  go_enter Tryz.func41, Tryz.ntmps41
  go_wp2_with fail
  go_loopw [1, 5, 6] (fun s1 s5 s6 wr => ∃ (f : Nat) (e j : Int) (done : List Nat), s1 = .int .i64 j ∧ s6 = .int .i64 e ∧ Hid (OwnI w.heap.size w s5 done wr) ∧ Hid (done ++ upL l f e j = upL l l.length l.length i) ∧ e ≤ (f : Int) ∧ 0 ≤ e ∧ e ≤ (l.length : Int) ∧ done.length + f ≤ l.length) (fun _ _ s6 _ => (intOf s6).toNat)
  case atStart => exact ⟨l.length, l.length, i, [], rfl, rfl, nilI _ _ _ (Below.refl _ _) (Nat.le_refl _), rfl, by omega, by omega, by omega, by simp⟩
  case round =>
    obtain ⟨f, e, j, done, rfl, rfl, HO, HU, hef, he0, hel, hdl⟩ := hrel
    obtain ⟨A5, n5, c5, h5⟩ := HO.out.shapeC
    subst h5
    by_cases h0 : 0 ≤ j
    · by_cases h1 : j < e
      · obtain ⟨k, rfl⟩ : ∃ k : Nat, j = (k : Int) := ⟨j.toNat, by omega⟩
        obtain ⟨f', rfl, hjf, hstep⟩ := up_step (l := l) hef h0 h1
        have HX := Lib.hid hstep
        have hkl : k < l.length := by omega
        have HP := Lib.hid HO.out.belowC
        obtain ⟨x, o, rfl, hat, -⟩ := HS.out.at k hkl
        have X1 := Lib.hid hat.c1
        have e9 : ((k : Int)).toNat = k := by omega
        rw [e9] at HX
        clear e9
        have hlt : (k : Int) < (l.length : Int) := by omega
        clear hat hstep
        generalize l.getD k default = r at *
        go_wp2_with (first
          | (at_builtin; refine wpList_appI (w := wr.alloc (.cells #[.int .i64 (k : Int)] 3 (0, 0))) rfl (.tmp 22) (.tmp 24) rfl rfl (HO.out.alloc (.cells #[.int .i64 (k : Int)] 3 (0, 0))) (by have := HZ.out; omega) wr.heap.size k rfl (blk_new wr _) ?_; intro v6 w6 h6 hg6; have H6 := Lib.hid h6; have g1 : w6.cell? ⟨x, o + k * 8 + 1, none⟩ = some (.int .i64 r.p) := (by rw [h6.belowC.cell (World.block_lt_of_cell? w _ X1.out)]; exact X1.out); obtain ⟨A6, n6, c6, e6⟩ := h6.shapeC; subst e6; clear h6 hg6))
        go_quiet (fail)
        go_wp2_with fail
        go_roundw
        case rel =>
          refine ⟨f', k, r.p, done ++ [k], rfl, rfl, H6.out.drN ⟨_, rfl⟩, ?_, hjf, h0, by omega, by simp; omega⟩
          show _ = _
          rw [← HU.out, HX.out, List.append_assoc]
          rfl
        case measure => simp [intOf]; omega
      · have E0 : Hid (done.reverse = chL l i) := by
          have := HU.out
          rw [up_stop (by omega), List.append_nil] at this
          show _ = _
          rw [chL, this]
        have HR := Lib.hid (rev42 HO.out (by have := HZ.out; omega))
        rw [E0.out] at HR
        go_wp2_with (first | (go_at_call 65; refine HR.out.mono ?_; rintro e w' ⟨rfl, ho⟩; have HO2 := Lib.hid ho; clear ho))
        go_ret
        exact ⟨_, rfl, HO2.out⟩
    · have E0 : Hid (done.reverse = chL l i) := by
        have := HU.out
        rw [up_stop (by omega), List.append_nil] at this
        show _ = _
        rw [chL, this]
      have HR := Lib.hid (rev42 HO.out (by have := HZ.out; omega))
      rw [E0.out] at HR
      go_wp2_with (first | (go_at_call 65; refine HR.out.mono ?_; rintro e w' ⟨rfl, ho⟩; have HO2 := Lib.hid ho; clear ho))
      go_ret
      exact ⟨_, rfl, HO2.out⟩

/-! numbers in a block of numbers; a place's block -/
def Nt (w : World) (v : Value) (ns : List Nat) : Prop := Ni w v ns ∧ ∀ b o n c, v = .slice (some ⟨b, o, none⟩) n c → ∃ cur fz, w.heap[b]? = some (.cells cur 3 fz)
theorem Nt.call {w w' : World} {v : Value} {ns : List Nat} (h : Nt w v ns) (hb : Below w.heap.size w w') : Nt w' v ns :=
  ⟨h.1.call hb, fun b o n c e => by obtain ⟨cur, fz, hk⟩ := h.2 b o n c e; exact ⟨cur, fz, blk_call hk hb⟩⟩
theorem OwnI.nt {B : Nat} {w0 : World} {v : Value} {ns : List Nat} {w : World} (h : OwnI B w0 v ns w) : Nt w v ns := by
  refine ⟨h.ni, fun b o n c e => ?_⟩
  obtain ⟨_, ⟨rfl, _⟩ | ⟨g, cap, cur, rfl, _, hg, _⟩⟩ := h.1
  · cases e
  · cases e
    exact ⟨cur, _, hg⟩
theorem nt_nil (w : World) : Nt w (.slice none 0 0) [] := ⟨⟨none, 0, rfl, by simp, fun _ => rfl, fun i hi => by simp at hi⟩, fun b o n c e => by cases e⟩
theorem Nt.kp {w w' : World} {v : Value} {ns : List Nat} (h : Nt w v ns) {U : Nat} {cs : Array Value} {t : TypeId} {fz : Nat × Nat} (hU : w.heap[U]? = some (.cells cs t fz)) (ht : t ≠ 3) (hk : Kp (fun k => k = U) w w') : Nt w' v ns := by
  have key : ∀ b o n c, v = .slice (some ⟨b, o, none⟩) n c → w'.heap[b]? = w.heap[b]? := by
    intro b o n c e
    obtain ⟨cur, fz', hb⟩ := h.2 b o n c e
    refine hk.block b (blk_lt hb) ?_
    intro e2
    subst e2
    rw [hb] at hU
    cases hU
    exact ht rfl
  refine ⟨?_, fun b o n c e => by obtain ⟨cur, fz', hb⟩ := h.2 b o n c e; exact ⟨cur, fz', (key b o n c e).trans hb⟩⟩
  obtain ⟨A, cap, e, h2, h3, h4⟩ := h.1
  refine ⟨A, cap, e, h2, h3, fun i hi => ?_⟩
  obtain ⟨b, o, ha, hc⟩ := h4 i hi
  exact ⟨b, o, ha, by rw [World.cell?_of_block (w := w) (key b o ns.length cap (by rw [e, ha]))]; exact hc⟩
theorem Nt.shape {w : World} {v : Value} {ns : List Nat} (h : Nt w v ns) : ∃ A n c, v = .slice A n c := h.1.shape

/-- no text among these cells -/
def NoStr (cs : Array Value) : Prop := ∀ (i : Nat) (s : ByteArray), cs[i]? ≠ some (.string s)
theorem Ss.kpU {w w' : World} {v : Value} {l : List ByteArray} (h : Ss w v l) {U : Nat} {cs : Array Value} {t : TypeId} (hU : w.heap[U]? = some (.cells cs t (0, 0))) (hn : NoStr cs) (hk : Kp (fun k => k = U) w w') : Ss w' v l := by
  obtain ⟨A', cap, h1, h2, h3, h4⟩ := h
  refine ⟨A', cap, h1, h2, h3, fun i hi => ?_⟩
  obtain ⟨b, o, ha, hc⟩ := h4 i hi
  have hne : b ≠ U := by
    intro e
    subst e
    rw [blk_cell hU] at hc
    exact hn _ _ hc
  exact ⟨b, o, ha, by rw [hk.cell (World.block_lt_of_cell? _ _ hc) hne]; exact hc⟩
theorem Ps.kpU {w w' : World} {v : Value} {l : List Pr} (h : Ps w v l) {U : Nat} {cs : Array Value} {t : TypeId} (hU : w.heap[U]? = some (.cells cs t (0, 0))) (hn : NoStr cs) (hk : Kp (fun k => k = U) w w') : Ps w' v l := by
  obtain ⟨A', cap, h1, h2, h3, h4⟩ := h
  refine ⟨A', cap, h1, h2, h3, fun i hi => ?_⟩
  obtain ⟨b, o, ha, hc, hd⟩ := h4 i hi
  have hne : b ≠ U := by
    intro e
    subst e
    rw [blk_cell hU] at hc
    exact hn _ _ hc
  exact ⟨b, o, ha, by rw [hk.cell (World.block_lt_of_cell? _ _ hc) hne]; exact hc, by rw [hk.cell (World.block_lt_of_cell? _ _ hd) hne]; exact hd⟩
/-- a place's six cells -/
def plC (v1 v2 v3 v4 : Value) (i h : Int) : Array Value := #[v1, v2, .int .i64 i, v3, v4, .int .i64 h]
theorem plC_no {A1 A2 A3 A4 : Option Addr} {n1 n2 n3 n4 c1 c2 c3 c4 : Nat} {i h : Int} : NoStr #[.slice A1 n1 c1, .slice A2 n2 c2, .int .i64 i, .slice A3 n3 c3, .slice A4 n4 c4, .int .i64 h] := by
  intro k s e
  rcases (show k = 0 ∨ k = 1 ∨ k = 2 ∨ k = 3 ∨ k = 4 ∨ k = 5 ∨ 6 ≤ k by omega) with rfl | rfl | rfl | rfl | rfl | rfl | h
  all_goals first | (simp at e; done) | (rw [Array.getElem?_eq_none (by simpa using h)] at e; cases e)
theorem blk6 {w : World} {b : Nat} {a0 a1 a2 a3 a4 a5 : Value} {t : TypeId} (h : w.heap[b]? = some (.cells #[a0, a1, a2, a3, a4, a5] t (0, 0))) :
    (w.cell? ⟨b, 0, none⟩ = some a0 ∧ w.cell? ⟨b, 1, none⟩ = some a1 ∧ w.cell? ⟨b, 2, none⟩ = some a2 ∧ w.cell? ⟨b, 3, none⟩ = some a3 ∧ w.cell? ⟨b, 4, none⟩ = some a4 ∧ w.cell? ⟨b, 5, none⟩ = some a5) ∧
    (w.frozen? ⟨b, 0, none⟩ = false ∧ w.frozen? ⟨b, 1, none⟩ = false ∧ w.frozen? ⟨b, 2, none⟩ = false ∧ w.frozen? ⟨b, 3, none⟩ = false ∧ w.frozen? ⟨b, 4, none⟩ = false ∧ w.frozen? ⟨b, 5, none⟩ = false) := by
  refine ⟨⟨?_, ?_, ?_, ?_, ?_, ?_⟩, blk_frozen h 0, blk_frozen h 1, blk_frozen h 2, blk_frozen h 3, blk_frozen h 4, blk_frozen h 5⟩ <;> rw [blk_cell h] <;> rfl
theorem kp6 (w : World) (b : Nat) (x0 x1 x2 x3 x4 x5 : Value) : Kp (fun k => k = b) w ((((((w.setCell ⟨b, 0, none⟩ x0).setCell ⟨b, 1, none⟩ x1).setCell ⟨b, 2, none⟩ x2).setCell ⟨b, 3, none⟩ x3).setCell ⟨b, 4, none⟩ x4).setCell ⟨b, 5, none⟩ x5) :=
  ((((((Kp.refl (fun k => k = b) w).setCell (p := ⟨b, 0, none⟩) (fun _ => rfl) _).setCell (p := ⟨b, 1, none⟩) (fun _ => rfl) _).setCell (p := ⟨b, 2, none⟩) (fun _ => rfl) _).setCell (p := ⟨b, 3, none⟩) (fun _ => rfl) _).setCell (p := ⟨b, 4, none⟩) (fun _ => rfl) _).setCell (p := ⟨b, 5, none⟩) (fun _ => rfl) _
theorem set6 {w : World} {b : Nat} {a0 a1 a2 a3 a4 a5 : Value} {t : TypeId} (h : w.heap[b]? = some (.cells #[a0, a1, a2, a3, a4, a5] t (0, 0))) (x0 x1 x2 x3 x4 x5 : Value) :
    ((((((w.setCell ⟨b, 0, none⟩ x0).setCell ⟨b, 1, none⟩ x1).setCell ⟨b, 2, none⟩ x2).setCell ⟨b, 3, none⟩ x3).setCell ⟨b, 4, none⟩ x4).setCell ⟨b, 5, none⟩ x5).heap[b]? = some (.cells #[x0, x1, x2, x3, x4, x5] t (0, 0)) := by
  have := blk_setCell (blk_setCell (blk_setCell (blk_setCell (blk_setCell (blk_setCell h 0 x0) 1 x1) 2 x2) 3 x3) 4 x4) 5 x5
  simpa using this

/-- the slices of a place hold what it says -/
def PlOk (w : World) (v1 v2 v3 v4 : Value) (pl : Pl) : Prop := Ss w v1 pl.p ∧ Ps w v2 pl.q ∧ Nt w v3 pl.c ∧ Ps w v4 pl.m
theorem PlOk.call {w w' : World} {v1 v2 v3 v4 : Value} {pl : Pl} (h : PlOk w v1 v2 v3 v4 pl) (hb : Below w.heap.size w w') : PlOk w' v1 v2 v3 v4 pl :=
  ⟨h.1.call hb, h.2.1.call hb, h.2.2.1.call hb, h.2.2.2.call hb⟩
theorem PlOk.kpU {w w' : World} {v1 v2 v3 v4 : Value} {pl : Pl} (h : PlOk w v1 v2 v3 v4 pl) {U : Nat} {cs : Array Value} {t : TypeId} (hU : w.heap[U]? = some (.cells cs t (0, 0))) (ht : t ≠ 3) (hn : NoStr cs) (hk : Kp (fun k => k = U) w w') : PlOk w' v1 v2 v3 v4 pl :=
  ⟨h.1.kpU hU hn hk, h.2.1.kpU hU hn hk, h.2.2.1.kp hU ht hk, h.2.2.2.kpU hU hn hk⟩
theorem plOk_zero (w : World) : PlOk w (.slice none 0 0) (.slice none 0 0) (.slice none 0 0) (.slice none 0 0) zPl := ⟨ss_nil w, ps_nil w, nt_nil w, ps_nil w⟩
theorem PlOk.shape {w : World} {v1 v2 v3 v4 : Value} {pl : Pl} (h : PlOk w v1 v2 v3 v4 pl) : ∃ A1 n1 c1 A2 n2 c2 A3 n3 c3 A4 n4 c4, v1 = .slice A1 n1 c1 ∧ v2 = .slice A2 n2 c2 ∧ v3 = .slice A3 n3 c3 ∧ v4 = .slice A4 n4 c4 := by
  obtain ⟨A1, n1, c1, e1⟩ := h.1.shape
  obtain ⟨A2, n2, c2, e2⟩ := h.2.1.shape
  obtain ⟨A3, n3, c3, e3⟩ := h.2.2.1.shape
  obtain ⟨A4, n4, c4, e4⟩ := h.2.2.2.shape
  exact ⟨_, _, _, _, _, _, _, _, _, _, _, _, e1, e2, e3, e4⟩

/-! rules in a row -/
theorem OwnRl.kp {B : Nat} {w0 : World} {v : Value} {l : List Rl} {w : World} (h : OwnRl B w0 v l w) : ∃ A n c, v = .slice A n c := by
  obtain ⟨A, c, e⟩ := h.rs.shape
  exact ⟨A, _, c, e⟩
theorem wpList_mkRl {ops : Array Oper} {rest : List Oper} {o : Oper} {a : Act} {Q : Exit → Act → World → Prop} (w : World) (hg : o.guard = none) (l c : Operand) (hop : o.op = Op.makeSlice 56 l c)
    (B : Nat) (w0 : World) (hb : Below B w0 w) (hB : B ≤ w.heap.size)
    (C : Int) (n : Nat) (hl : a.eval l = .int .i64 0) (hc : a.eval c = .int .i64 C) (hC : C = (n : Int)) (hn : n ≤ 1000000000)
    (hK : ∀ v w', OwnRl B w0 v [] w' → Below w.heap.size w w' → wpList Tryz.prog ops Q rest (a.put o.dst v) w') : wpList Tryz.prog ops Q (o :: rest) a w := by
  obtain ⟨i0, hi, hz0, hz1, hz2⟩ := info_parts info23
  refine wpList_make_own w hg l c 56 hop B 23 i0 (.agg #[.int .i64 0, .int .i64 0, .string ⟨#[]⟩]) 3 Tryz.underlying56 hi hz0 hz1 .i64 .i64 C n hl hc hC (by rw [hz2]; omega) (by unfold maxLen; omega) hB ?_
  intro w' h1 h2
  exact hK _ w' ⟨h1, hb.grown h2 hB (fun k hk => by cases hk), by have := h2.size; omega⟩ ((Below.refl _ w).grown h2 (Nat.le_refl _) (fun k hk => by cases hk))
theorem rls_one {w : World} {b : Nat} {r : Rl} (h : w.heap[b]? = some (.cells #[.int .i64 r.k, .int .i64 r.f, .string r.t] 23 (0, 0))) : Rls w (.slice (some ⟨b, 0, none⟩) 1 1) 1 (fun _ => r) := by
  refine ⟨_, 1, rfl, by omega, (fun e => by cases e), fun i hi => ⟨b, 0, rfl, RlAt.of fun j hj => ?_⟩⟩
  obtain rfl : i = 0 := by omega
  rw [blk_cell h]
  simp [rlC]
end Go.Proofs.YthigandmemifoaaGreatDoor

namespace Go.Proofs.YthigandmemifoaaGreatDoor
open Go.RowKit Go.PlainAid
set_option maxRecDepth 100000

theorem ch_next (l : List Rc) (c : List Nat) (k : Nat) (h : k < c.length) : (c.take (k + 1)).map (fun k => rlR (l.getD k default)) = (c.take k).map (fun k => rlR (l.getD k default)) ++ (List.range 1).map (fun _ => rlR (l.getD (c.getD k 0) default)) := by
  rw [List.take_add_one]
  simp only [List.getElem?_eq_getElem h, Option.toList_some, List.map_append, List.getD, Option.getD_some]
  rfl
set_option maxHeartbeats 6400000 in
theorem rules21 (v : Value) (l : List Rc) (cv : Value) (c : List Nat) (w : World) (h : Rs w v l) (hc : Ni w cv c) (hlt : ∀ x ∈ c, x < l.length) (hz : c.length ≤ 1000) :
    Calls Tryz.prog 21 #[v, cv] w fun e w' => ∃ u, e = .returned u ∧ OwnRl w.heap.size w u (c.map (fun k => rlR (l.getD k default))) w' := by
  have HS := Lib.hid h
  have HT := Lib.hid hlt
  obtain ⟨A, cap, rfl⟩ := h.len
  obtain ⟨A1, c1, rfl, hcap, -, hcc⟩ := hc
  have C1 := Lib.hid hcc
  clear h hlt hcc
  go_enter Tryz.func21, Tryz.ntmps21
  go_wp2_with (first
    | (refine wpList_mkRl w rfl _ _ rfl w.heap.size w (Below.refl _ _) (Nat.le_refl _) _ c.length rfl rfl rfl (by omega) ?_; intro v5 w5 h5 hb5; have H5 := Lib.hid h5; obtain ⟨A5, n5, c5, e5⟩ := h5.kp; subst e5; clear h5 hb5))
  go_loopw [5, 13] (fun s5 s13 wr => ∃ (k : Nat), k ≤ c.length ∧ s13 = .int .i64 k ∧ Hid (OwnRl w.heap.size w s5 ((c.take k).map (fun k => rlR (l.getD k default))) wr)) (fun _ s13 _ => c.length - (intOf s13).toNat)
  case atStart => exact ⟨0, Nat.zero_le _, rfl, H5.out⟩
  case round =>
    obtain ⟨k, hk, rfl, HO⟩ := hrel
    have HB := Lib.hid HO.out.2.1
    obtain ⟨A6, n6, c6, h6⟩ := HO.out.kp
    subst h6
    by_cases hlt : k < c.length
    · have d0 : (k : Int) < (c.length : Int) := by omega
      obtain ⟨x, o, rfl, hcell⟩ := C1.out k hlt
      have g0 : wr.cell? ⟨x, o + k, none⟩ = some (.int .i64 (c.getD k 0 : Nat)) := by rw [HB.out.cell (World.block_lt_of_cell? _ _ hcell)]; exact hcell
      have HN := Lib.hid (ch_next l c k hlt)
      have hy := HT.out (c.getD k 0) (by simp [List.getD, hlt])
      have hml : Hid (((c.take k).map (fun k => rlR (l.getD k default))).length ≤ 1000) := (show _ ≤ _ by simp; omega)
      clear hcell
      generalize c.getD k 0 = y at *
      obtain ⟨x2, o2, rfl, hat, -⟩ := (HS.out.call HB.out).at y hy
      have g5 := hat.c5
      have g6 := hat.c6
      have g7 := hat.c7
      have d1 : (y : Int) < (l.length : Int) := by omega
      clear hat
      generalize (c.take k).map (fun k => rlR (l.getD k default)) = L at *
      have E : Hid (rlR (l.getD y default) = ⟨(l.getD y default).rk, (l.getD y default).rf, (l.getD y default).rt⟩) := rfl
      generalize rlR (l.getD y default) = R at *
      generalize l.getD y default = r at *
      have HR : Hid (Rls (wr.alloc (.cells #[.int .i64 r.rk, .int .i64 r.rf, .string r.rt] 23 (0, 0))) (.slice (some ⟨wr.heap.size, 0, none⟩) 1 1) 1 (fun _ => R)) := rls_one (by rw [E.out]; exact blk_new wr _)
      go_wp2_with (first
        | (at_builtin; refine wpList_catR _ rfl (.tmp 17) (.tmp 23) rfl w.heap.size w _ _ rfl (HO.out.call ((Below.refl wr.heap.size wr).alloc (Nat.le_refl _) (.cells #[.int .i64 r.rk, .int .i64 r.rf, .string r.rt] 23 (0, 0)))) hml.out _ 1 _ rfl (by omega) HR.out ?_; intro v7 w7 h7 hg7; have H7 := Lib.hid h7; obtain ⟨A7, n7, c7, e7⟩ := h7.kp; subst e7; clear h7 hg7))
      go_roundw
      case rel =>
        refine ⟨k + 1, by omega, by go_num, ?_⟩
        rw [HN.out]
        exact H7.out
      case measure => simp [intOf]; omega
    · obtain rfl : k = c.length := by omega
      rw [List.take_length] at HO
      go_wp2
      go_ret
      exact ⟨_, rfl, HO.out⟩
end Go.Proofs.YthigandmemifoaaGreatDoor

namespace Go.Proofs.YthigandmemifoaaGreatDoor
open Go.RowKit Go.PlainAid
set_option maxRecDepth 100000

theorem resolve40 (v : Value) (l : List Rc) (pv : Value) (path : List ByteArray) (w : World) (h : Rs w v l) (hf : Fit l)
    (hp : Ss w pv path) (hsz : ∀ s ∈ path, s.size ≤ 100000000) (hpl : path.length ≤ 1000) :
    Calls Tryz.prog 40 #[v, pv] w fun e w' => ∃ A n c, e = .returned (.tuple #[.int .i64 (fdI l path), .slice A n c, .bool (fdB l path)]) ∧ Ps w' (.slice A n c) (fdL l path) ∧ Below w.heap.size w w' := by
  by_cases hr : rtB l = true
  · refine (resolve9_yes v l pv path w h hf hr (by have := hf.1; omega) hp hsz hpl (fdA_all l path hr)).mono ?_
    rintro e w' ⟨u, rfl, h1, h2⟩
    obtain ⟨A, n, c, rfl⟩ := h1.shape
    exact ⟨A, n, c, rfl, h1, h2⟩
  · have hr : rtB l = false := by simpa using hr
    obtain ⟨A2, n2, c2, rfl⟩ := hp.shape
    refine (resolve9_no v l A2 n2 c2 w h hf hr).mono ?_
    rintro e w' ⟨rfl, h2⟩
    have e : fdA l path = [] := by rw [fdA, hr]; rfl
    refine ⟨none, 0, 0, ?_, ?_, h2⟩
    · rw [fdI, fdB, e]; rfl
    · rw [fdL, e]; exact ps_nil _

def FindPost (ok : Bool) (pl : Pl) (w : World) (e : Ending) (w' : World) : Prop :=
  ∃ v1 v2 v3 v4, e = .returned (.tuple #[.agg #[v1, v2, .int .i64 pl.i, v3, v4, .int .i64 pl.h], .bool ok]) ∧ PlOk w' v1 v2 v3 v4 pl ∧ Below w.heap.size w w'
theorem FindPost.mk {ok : Bool} {pl : Pl} {w : World} {e : Ending} {w' : World} (v1 v2 v3 v4 : Value) (i h : Int) (hi : i = pl.i) (hh : h = pl.h) (he : e = .returned (.tuple #[.agg #[v1, v2, .int .i64 i, v3, v4, .int .i64 h], .bool ok])) (h1 : PlOk w' v1 v2 v3 v4 pl) (h2 : Below w.heap.size w w') : FindPost ok pl w e w' := by
  subst hi hh
  exact ⟨v1, v2, v3, v4, he, h1, h2⟩

set_option maxHeartbeats 6400000 in
theorem find20 (v : Value) (l : List Rc) (pv qv : Value) (p : List ByteArray) (q : List Pr) (w : World) (h : Rs w v l) (hf : Fit l)
    (hp : Ss w pv p) (hq : Ps w qv q) (hsz : ∀ s ∈ p, s.size ≤ 100000000) (hpl : p.length ≤ 1000) :
    Calls Tryz.prog 20 #[v, .agg #[pv, qv]] w (FindPost (fdB l p) (fdP l p q) w) := by
  obtain ⟨A1, n1, c1, rfl⟩ := hp.shape
  obtain ⟨A2, n2, c2, rfl⟩ := hq.shape
  have B0 := Lib.hid (((Below.refl w.heap.size w).alloc (Nat.le_refl _) (.cells #[.slice A1 n1 c1, .slice A2 n2 c2] 33 (0, 0))).alloc (by simp) (.cells #[.slice none 0 0, .slice none 0 0, .int .i64 0, .slice none 0 0, .slice none 0 0, .int .i64 0] 36 (0, 0)))
  have X3 := Lib.hid (blk_alloc (blk_new w (.cells #[.slice A1 n1 c1, .slice A2 n2 c2] 33 (0, 0))) (.cells #[.slice none 0 0, .slice none 0 0, .int .i64 0, .slice none 0 0, .slice none 0 0, .int .i64 0] 36 (0, 0)))
  have X4 := Lib.hid (blk_new1 w (.cells #[.slice A1 n1 c1, .slice A2 n2 c2] 33 (0, 0)) (.cells #[.slice none 0 0, .slice none 0 0, .int .i64 0, .slice none 0 0, .slice none 0 0, .int .i64 0] 36 (0, 0)))
  have HS := Lib.hid (h.call B0.out)
  have HP := Lib.hid (hp.call B0.out)
  have HQ := Lib.hid (hq.call B0.out)
  have HF := Lib.hid hf
  have HZ := Lib.hid hsz
  have HPL := Lib.hid hpl
  have hch : Hid (∀ w' : World, Below _ _ w' → _) := Lib.hid (fun w' hb => chain24o v l (fdI l p) w' (HS.out.call (w' := w') hb) (by have := hf.1; omega))
  obtain ⟨A, cap, rfl⟩ := h.len
  clear h hp hq hsz hpl hf
  have hP : fdB l p = true → fdP l p q = ⟨p, q, fdI l p, chL l (fdI l p), fdL l p, 0⟩ := fun hb => by rw [fdP, if_pos hb]
  have hN : fdB l p = false → fdP l p q = zPl := fun hb => by rw [fdP, hb]; rfl
  go_enter Tryz.func20, Tryz.ntmps20
  go_upto_region 1 with fail
  generalize (w.alloc (.cells #[.slice A1 n1 c1, .slice A2 n2 c2] 33)).alloc (.cells #[.slice none 0 0, .slice none 0 0, .int .i64 0, .slice none 0 0, .slice none 0 0, .int .i64 0] 36) = w1 at *
  have x0 : w1.cell? ⟨w.heap.size, 0, none⟩ = some (.slice A1 n1 c1) := by rw [blk_cell X3.out]; rfl
  have HR := Lib.hid (resolve40 _ l _ p w1 HS.out HF.out HP.out HZ.out HPL.out)
  have HPT := Lib.hid hP
  have HNT := Lib.hid hN
  clear hP hN
  generalize fdP l p q = PL at *
  generalize fdI l p = ID at *
  generalize fdL l p = ML at *
  generalize chL l ID = CH at *
  generalize fdB l p = OK at *
  cases OK
  · have E := Lib.hid (HNT.out rfl)
    clear HPT HNT hch
    go_wp2_with (first | (go_at_call 40; refine HR.out.mono ?_; rintro e w2 ⟨A5, n5, c5, rfl, h2, hb2⟩; have B2 := Lib.hid hb2; have K4 := Lib.hid (blk_call X4.out hb2); obtain ⟨⟨k0, k1, k2, k3, k4, k5⟩, ⟨f0, f1, f2, f3, f4, f5⟩⟩ := blk6 K4.out; clear h2 hb2))
    refine bodyPost_ret (v := .tuple #[.agg #[.slice none 0 0, .slice none 0 0, .int .i64 0, .slice none 0 0, .slice none 0 0, .int .i64 0], .bool false]) ?_ rfl ?_
    · rw [results_cell_tmp rfl]
      go_simp
    · rw [E.out]
      refine FindPost.mk _ _ _ _ 0 0 rfl rfl rfl (plOk_zero _) ?_
      exact (B0.out.trans (B2.out.mono B0.out.size)).trans ((kp6 w2 (w.heap.size + 1) _ _ _ _ _ _).below (by have := B0.out.size; have := B2.out.size; omega) (fun k hk e => by omega))
  · have E := Lib.hid (HPT.out rfl)
    clear HPT HNT
    go_upto_region 4 with (first | (go_at_call 40; refine HR.out.mono ?_; rintro e w2 ⟨A5, n5, c5, rfl, h2, hb2⟩; have B2 := Lib.hid hb2; have M2 := Lib.hid h2; clear h2 hb2))
    have K3 := Lib.hid (blk_call X3.out B2.out)
    have K4 := Lib.hid (blk_call X4.out B2.out)
    have hsz2 : w.heap.size + 1 < w2.heap.size := blk_lt K4.out
    obtain ⟨⟨k0, k1, k2, k3, k4, k5⟩, ⟨f0, f1, f2, f3, f4, f5⟩⟩ := blk6 K4.out
    have KS : Hid (∀ w' : World, Kp (fun k => k = w.heap.size + 1) w2 w' → w'.cell? ⟨w.heap.size, 0, none⟩ = some (.slice A1 n1 c1) ∧ w'.cell? ⟨w.heap.size, 1, none⟩ = some (.slice A2 n2 c2) ∧ Kp (fun k => k = w.heap.size + 1) w2 w') := by
      intro w' hk
      have hb : w'.heap[w.heap.size]? = _ := (hk.block w.heap.size (by omega) (by omega)).trans K3.out
      exact ⟨by rw [blk_cell hb]; rfl, by rw [blk_cell hb]; rfl, hk⟩
    clear x0
    have hSd : (fun w' : World => w'.cell? ⟨w.heap.size, 0, none⟩ = some (.slice A1 n1 c1) ∧ w'.cell? ⟨w.heap.size, 1, none⟩ = some (.slice A2 n2 c2) ∧ Kp (fun k => k = w.heap.size + 1) w2 w') (World.drew w2) := KS.out _ ((Kp.refl _ _).drew)
    refine wp_region_sink (S := fun w' : World => w'.cell? ⟨w.heap.size, 0, none⟩ = some (.slice A1 n1 c1) ∧ w'.cell? ⟨w.heap.size, 1, none⟩ = some (.slice A2 n2 c2) ∧ Kp (fun k => k = w.heap.size + 1) w2 w') (n := 1000) (by kernel_rfl) ?_
    change wpSink _ _ _ _ _ 1000 9 _ _ _
    refine sink_take1 (i := 0) (d := some 20) (v := ?_) rfl rfl (by kernel_rfl) (by decide) (by kernel_rfl) (by kernel_rfl) (fun _ _ _ h => h) (Or.inl ⟨by rfl, ?_⟩) hSd ?_
    rotate_left
    · intro wz hSw
      (try dsimp only at hSw)
      obtain ⟨q0, q1, q2⟩ := hSw
      go_simp
      (try with_reducible rfl)
    try simp only [Act.put, List.setIfInBounds_toArray, List.set_cons_zero, List.set_cons_succ]
    refine sink_take1 (i := 1) (d := some 21) (v := ?_) rfl rfl (by kernel_rfl) (by decide) (by kernel_rfl) (by kernel_rfl) (fun _ _ _ h => h) (Or.inl ⟨by rfl, ?_⟩) hSd ?_
    rotate_left
    · intro wz hSw
      (try dsimp only at hSw)
      obtain ⟨q0, q1, q2⟩ := hSw
      go_simp
      (try with_reducible rfl)
    try simp only [Act.put, List.setIfInBounds_toArray, List.set_cons_zero, List.set_cons_succ]
    refine sink_take1 (i := 2) (d := some 22) (v := ?_) rfl rfl (by kernel_rfl) (by decide) (by kernel_rfl) (by kernel_rfl) (fun _ _ _ h => h) (Or.inl ⟨by rfl, ?_⟩) hSd ?_
    rotate_left
    · intro wz hSw
      (try dsimp only at hSw)
      obtain ⟨q0, q1, q2⟩ := hSw
      go_simp
      (try with_reducible rfl)
    try simp only [Act.put, List.setIfInBounds_toArray, List.set_cons_zero, List.set_cons_succ]
    refine sink_take1 (i := 3) (d := some 23) (v := ?_) rfl rfl (by kernel_rfl) (by decide) (by kernel_rfl) (by kernel_rfl) (fun _ _ _ h => h) (Or.inl ⟨by rfl, ?_⟩) hSd ?_
    rotate_left
    · intro wz hSw
      (try dsimp only at hSw)
      obtain ⟨q0, q1, q2⟩ := hSw
      go_simp
      (try with_reducible rfl)
    try simp only [Act.put, List.setIfInBounds_toArray, List.set_cons_zero, List.set_cons_succ]
    refine sink_take1 (i := 5) (d := some 25) (v := ?_) rfl rfl (by kernel_rfl) (by decide) (by kernel_rfl) (by kernel_rfl) (fun _ _ _ h => h) (Or.inl ⟨by rfl, ?_⟩) hSd ?_
    rotate_left
    · intro wz hSw
      (try dsimp only at hSw)
      obtain ⟨q0, q1, q2⟩ := hSw
      go_simp
      (try with_reducible rfl)
    try simp only [Act.put, List.setIfInBounds_toArray, List.set_cons_zero, List.set_cons_succ]
    refine sink_one (i := 4) (by kernel_rfl) ?_
    refine wpOp_step rfl (fun K' hK => ?_)
    have HKK := Lib.hid hK
    clear hK
    rw [if_pos (by rfl)]
    go_simp
    refine (hch.out _ (B2.out.drew)).mono ?_
    rintro e w3 ⟨u, rfl, h3⟩
    have H3 := Lib.hid h3
    have D3 := Lib.hid ((Below.refl w2.heap.size w2).drew.trans h3.2.1)
    have hS3 : (fun w' : World => w'.cell? ⟨w.heap.size, 0, none⟩ = some (.slice A1 n1 c1) ∧ w'.cell? ⟨w.heap.size, 1, none⟩ = some (.slice A2 n2 c2) ∧ Kp (fun k => k = w.heap.size + 1) w2 w') w3 := KS.out _ (Kp.of_below D3.out _)
    obtain ⟨A6, n6, c6, e6⟩ := h3.shapeC
    subst e6
    clear h3 hSd
    refine HKK.out _ _ ⟨Or.inr hS3, ?_⟩
    clear HKK
    try simp only [Act.put, List.setIfInBounds_toArray, List.set_cons_zero, List.set_cons_succ]
    refine sink_take1 (i := 6) (d := some 26) (v := ?_) rfl rfl (by kernel_rfl) (by decide) (by kernel_rfl) (by kernel_rfl) (fun _ _ _ h => h) (Or.inl ⟨by rfl, ?_⟩) hS3 ?_
    rotate_left
    · intro wz hSw
      (try dsimp only at hSw)
      obtain ⟨q0, q1, q2⟩ := hSw
      go_simp
      (try with_reducible rfl)
    try simp only [Act.put, List.setIfInBounds_toArray, List.set_cons_zero, List.set_cons_succ]
    have K43 := Lib.hid (blk_call K4.out D3.out)
    obtain ⟨⟨k0, k1, k2, k3, k4, k5⟩, ⟨f0, f1, f2, f3, f4, f5⟩⟩ := blk6 K43.out
    refine sink_one (i := 7) (by kernel_rfl) ?_
    refine wpOp_step rfl (fun K' hK => ?_)
    have HKK := Lib.hid hK
    clear hK
    rw [if_pos (by rfl)]
    go_simp
    have K44 := Lib.hid (set6 K43.out (.slice A1 n1 c1) (.slice A2 n2 c2) (.int .i64 ID) (.slice A6 n6 c6) (.slice A5 n5 c5) (.int .i64 0))
    have D4 := Lib.hid (kp6 w3 (w.heap.size + 1) (.slice A1 n1 c1) (.slice A2 n2 c2) (.int .i64 ID) (.slice A6 n6 c6) (.slice A5 n5 c5) (.int .i64 0))
    clear k0 k1 k2 k3 k4 k5 f0 f1 f2 f3 f4 f5
    generalize (((((w3.setCell ⟨w.heap.size + 1, 0, none⟩ (.slice A1 n1 c1)).setCell ⟨w.heap.size + 1, 1, none⟩ (.slice A2 n2 c2)).setCell ⟨w.heap.size + 1, 2, none⟩ (.int .i64 ID)).setCell ⟨w.heap.size + 1, 3, none⟩ (.slice A6 n6 c6)).setCell ⟨w.heap.size + 1, 4, none⟩ (.slice A5 n5 c5)).setCell ⟨w.heap.size + 1, 5, none⟩ (.int .i64 0) = w4 at *
    have hS4 : (fun w' : World => w'.cell? ⟨w.heap.size, 0, none⟩ = some (.slice A1 n1 c1) ∧ w'.cell? ⟨w.heap.size, 1, none⟩ = some (.slice A2 n2 c2) ∧ Kp (fun k => k = w.heap.size + 1) w2 w') w4 := KS.out _ ((Kp.of_below D3.out _).trans D4.out (fun i _ h => h))
    clear hS3
    refine HKK.out _ _ ⟨Or.inr hS4, ?_⟩
    clear HKK
    try simp only [Act.put, List.setIfInBounds_toArray, List.set_cons_zero, List.set_cons_succ]
    refine sink_take1 (i := 8) (d := some 5) (v := ?_) rfl rfl (by kernel_rfl) (by decide) (by kernel_rfl) (by kernel_rfl) (fun _ _ _ h => h) (Or.inl ⟨by rfl, ?_⟩) hS4 ?_
    rotate_left
    · intro wz hSw
      (try dsimp only at hSw)
      obtain ⟨q0, q1, q2⟩ := hSw
      go_simp
      (try with_reducible rfl)
    try simp only [Act.put, List.setIfInBounds_toArray, List.set_cons_zero, List.set_cons_succ]
    refine sink_done (by kernel_rfl) ?_
    clear hS4
    obtain ⟨⟨k0, k1, k2, k3, k4, k5⟩, ⟨f0, f1, f2, f3, f4, f5⟩⟩ := blk6 K44.out
    go_wp2
    refine bodyPost_ret (v := .tuple #[.agg #[.slice A1 n1 c1, .slice A2 n2 c2, .int .i64 ID, .slice A6 n6 c6, .slice A5 n5 c5, .int .i64 0], .bool true]) ?_ rfl ?_
    · rw [results_cell_tmp rfl]
      go_simp
    · rw [E.out]
      refine FindPost.mk _ _ _ _ ID 0 rfl rfl rfl ?_ ?_
      · exact (show PlOk w3 _ _ _ _ ⟨p, q, ID, CH, ML, 0⟩ from ⟨((HP.out.call B2.out).call D3.out), ((HQ.out.call B2.out).call D3.out), H3.out.nt, (M2.out.call D3.out)⟩).kpU K43.out (by decide) plC_no D4.out
      · exact ((B0.out.trans (B2.out.mono B0.out.size)).trans (D3.out.mono (by omega))).trans (D4.out.below (by have := D3.out.size; omega) (fun k hk e => by omega))
end Go.Proofs.YthigandmemifoaaGreatDoor
