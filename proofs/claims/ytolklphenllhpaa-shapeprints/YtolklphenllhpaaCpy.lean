/-
  shape.Copy.
-/
import Derived.Test.YtolklphenllhpaaLpt
namespace Go.Proofs.Ytolklphenllhpaa
open Go.RowKit Go.PlainAid
set_option maxRecDepth 100000

abbrev noQ : Nat → Prop := fun _ => False
/-- what Copy answers: a tree in new memory; the row of its kids apart from what they hold -/
def CpP (t : Tr) (w : World) (e : Ending) (w' : World) : Prop := ∃ av kv vs, e = .returned (.agg #[.string t.tag, .string t.key, .string t.text, av, kv]) ∧ At (fun k => w.heap.size ≤ k) w' av t.attrs ∧ t.attrs.length ≤ 1000000 ∧ TrR w.heap.size (fun k => w.heap.size ≤ k) w' kv vs t.kids ∧ (∀ g, kv.ownBlock = some g → ∀ ad n c, av = .slice (some ad) n c → 0 < t.attrs.length → ad.block ≠ g) ∧ t.kids.length ≤ 1000000 ∧ Below w.heap.size w w'
theorem CpP.tree {t : Tr} {w w' : World} {e : Ending} (h : CpP t w e w') : ∃ v, e = .returned v ∧ TrW (fun k => w.heap.size ≤ k) w' v t ∧ Below w.heap.size w w' := by
  obtain ⟨av, kv, vs, rfl, ha, hl, hr, _, hk, hb⟩ := h
  refine ⟨_, rfl, ?_, hb⟩
  rw [Tr.eta t]
  exact hr.tree (fun k hk => hk) ⟨hl, hk⟩ ha.1 ha.2

set_option maxHeartbeats 12800000 in
theorem copy13 (n : Nat) : ∀ (p : Nat → Prop) (vt : Value) (t : Tr) (w : World), t.cnt ≤ n → TrW p w vt t → Calls Try.prog 13 #[vt] w (CpP t w) := by
  induction n with
  | zero =>
    intro p vt t w hz
    have := cnt_pos t
    omega
  | succ n ih =>
    intro p vt t w hz h
    have IH := Lib.hid ih
    obtain ⟨g, k, x, a, ks, A1, l1, a1, K1, c1, rfl, rfl⟩ := h.parts
    rw [cnt_mk] at hz
    have SZ := Lib.hid hz
    obtain ⟨_, _, _, PA, hla, KA⟩ := h.ks
    obtain ⟨A', c', e1, _⟩ := PA
    cases e1
    obtain ⟨A'', c'', cv, e2, hlk, hk4, ht4⟩ := KA
    cases e2
    have PA := h.ks.2.2.2.1
    have hb0 := ((Below.refl _ w).alloc (Nat.le_refl _) (.cells #[.string g, .string k, .string x, .slice A1 a.length a1, .slice K1 ks.length c1] 27 (0, 0))).alloc (by simp) (.cells #[.string ⟨#[]⟩, .string ⟨#[]⟩, .string ⟨#[]⟩, .slice none 0 0, .slice none 0 0] 27 (0, 0))
    have X0 := Lib.hid (blk_alloc (blk_new w (.cells #[.string g, .string k, .string x, .slice A1 a.length a1, .slice K1 ks.length c1] 27 (0, 0))) (.cells #[.string ⟨#[]⟩, .string ⟨#[]⟩, .string ⟨#[]⟩, .slice none 0 0, .slice none 0 0] 27 (0, 0)))
    have R0 := Lib.hid (blk_new1 w (.cells #[.string g, .string k, .string x, .slice A1 a.length a1, .slice K1 ks.length c1] 27 (0, 0)) (.cells #[.string ⟨#[]⟩, .string ⟨#[]⟩, .string ⟨#[]⟩, .slice none 0 0, .slice none 0 0] 27 (0, 0)))
    have B0 := Lib.hid hb0
    have P0 := Lib.hid (PA.call hb0)
    have HK := Lib.hid hk4
    have HT := Lib.hid ht4
    clear h hz ih hk4 ht4 PA hb0
    go_enter Try.func13, Try.ntmps13
    go_upto_region 1 with fail
    generalize (w.alloc _).alloc _ = w1 at *
    have x3 := blk_cell X0.out 3
    simp at x3
    go_wp2_with (at_builtin; go_loud (refine wpList_copyA _ rfl _ _ rfl _ a rfl rfl P0.out hla ?_))
    intro v2 w2 h2 hb2
    have O2 := Lib.hid h2
    have BB2 := Lib.hid hb2
    have X2 := Lib.hid (blk_call X0.out hb2)
    have R2 := Lib.hid (blk_call R0.out hb2)
    have B2 := Lib.hid (B0.out.trans (hb2.mono B0.out.size))
    obtain ⟨A2, a2, rfl, _⟩ := owns_sh h2
    clear h2 hb2 x3 P0
    have x0 := blk_cell X2.out 0
    have x1 := blk_cell X2.out 1
    have x2 := blk_cell X2.out 2
    have x3 := blk_cell X2.out 3
    have x4 := blk_cell X2.out 4
    have f3 := blk_frozen X2.out 3
    have f4 := blk_frozen X2.out 4
    simp at x0 x1 x2 x3 x4
    go_upto_region 2 with fail
    have X3 := Lib.hid (blk_setCell X2.out 3 (.slice A2 a.length a2))
    have hk3 : Kp (fun i => i = w.heap.size) w2 (w2.setCell ⟨w.heap.size, 3, none⟩ (.slice A2 a.length a2)) := (Kp.refl (fun i => i = w.heap.size) w2).setCell (p := ⟨w.heap.size, 3, none⟩) (fun _ => rfl) _
    have K3 := Lib.hid hk3
    clear hk3 x0 x1 x2 x3 x4 f3 f4
    generalize w2.setCell _ _ = w3 at *
    have x4 := blk_cell X3.out 4
    have f4 := blk_frozen X3.out 4
    simp at x4
    go_upto_region 4 with fail
    have X4 := Lib.hid (blk_setCell X3.out 4 (.slice none 0 0))
    have hk4 : Kp (fun i => i = w.heap.size) w3 (w3.setCell ⟨w.heap.size, 4, none⟩ (.slice none 0 0)) := (Kp.refl (fun i => i = w.heap.size) w3).setCell (p := ⟨w.heap.size, 4, none⟩) (fun _ => rfl) _
    have K4 := Lib.hid (K3.out.trans hk4 (fun i _ e => e))
    clear hk4 x4 f4 X3 K3
    generalize w3.setCell _ _ = w4 at *
    have hRt : w.heap.size + 1 < w1.heap.size := blk_lt R0.out
    have L0 : LpT noQ w (w.heap.size + 1) w.heap.size g k x a A2 a2 w2.heap.size w4 (.slice none 0 0) [] (ks.take 0) := by
      have hz2 := K4.out.size
      have hz1 := BB2.out.size
      refine ⟨by simpa using X4.out, (K4.out.block _ (blk_lt R2.out) (by omega)).trans R2.out, owns_ps (owns_sameB O2.out (fun g hg => K4.out.block g (O2.out.lt g hg).2 (fun e => by have := (O2.out.lt g hg).1; omega))), fun ad n c e => ?_, by rw [List.take_zero]; exact trR_nil _ _ _, ⟨B2.out.size, hz2, by omega, by omega, by omega⟩, fun k hk => hk.elim, ⟨fun h => h, fun h => h⟩⟩
      have hown : (Value.slice A2 a.length a2).ownBlock = some ad.block := by rw [e]; rfl
      have hl := O2.out.lt _ hown
      exact ⟨Or.inr (by omega), hl.2, by omega, by omega⟩
    have B4 : Hid (Below w.heap.size w w4) := B2.out.trans (K4.out.below B2.out.size (fun k hk e => by omega))
    have L1 := Lib.hid L0
    clear L0 X4 K4 R2 B2 O2 BB2 X2 X0 R0 B0 hRt
    generalize w2.heap.size = B at *
    go_wp2_with fail
    go_loopw [15] (fun p15 wr => ∃ (j : Nat) (v : Value) (vs : List (List Value)), j ≤ ks.length ∧ p15 = .int .i64 j ∧ vs.length = j ∧ Hid (LpT noQ w (w.heap.size + 1) w.heap.size g k x a A2 a2 B wr v vs (ks.take j)) ∧ Hid (Below w.heap.size w wr)) (fun p _ => ks.length - (intOf p).toNat)
    case atStart => exact ⟨0, _, [], Nat.zero_le _, rfl, rfl, L1.out, B4.out⟩
    case round =>
      obtain ⟨j, v, vs, hj, rfl, hvs, LP, BW⟩ := hrel
      clear L1 B4
      subst hvs
      by_cases hlt : vs.length < ks.length
      · have d0 : (vs.length : Int) < (ks.length : Int) := by omega
        obtain ⟨b1, o1, x0, x1, x2, x3, x4, rfl, _, ec, k0, k1, k2, k3, k4⟩ := HK.out vs.length hlt
        have TA := (HT.out vs.length hlt).call BW.out
        rw [ec] at TA
        obtain ⟨g5, y5, t5, at5, kd5, A5, n5, a5, K5, c5, et, ev⟩ := TA.parts
        cases ev
        clear et
        have gc : ∀ (p : Addr) (u : Value), w.cell? p = some u → wr.cell? p = some u := fun p u hc => by
          rw [BW.out.cell (World.block_lt_of_cell? w _ hc)]
          exact hc
        replace k0 := gc _ _ k0
        replace k1 := gc _ _ k1
        replace k2 := gc _ _ k2
        replace k3 := gc _ _ k3
        replace k4 := gc _ _ k4
        have SK : Hid ((ks.getD vs.length tr0).cnt ≤ n) := by
          have h1 := kid_cnt ks vs.length hlt
          have h2 := SZ.out
          show _ ≤ n
          omega
        have TK := Lib.hid (take_next ks vs.length hlt)
        have hbx := (Below.refl _ wr).alloc (Nat.le_refl _) (.cells #[.string g5, .string y5, .string t5, .slice A5 n5 a5, .slice K5 kd5.length c5] 27 (0, 0))
        have XB := Lib.hid (blk_new wr (.cells #[.string g5, .string y5, .string t5, .slice A5 n5 a5, .slice K5 kd5.length c5] 27 (0, 0)))
        have TB := Lib.hid (TA.call hbx)
        have LB := Lib.hid (LP.out.call hbx)
        have BB := Lib.hid (BW.out.trans (hbx.mono BW.out.size))
        have VB : Hid (v.ownBlock ≠ some wr.heap.size) := fun e => by have := (LP.out.row.own.lt _ e).2; omega
        clear gc ec TA hbx LP BW
        generalize ks.getD vs.length tr0 = tj at *
        obtain ⟨VA, vc, rfl, _⟩ := owns_sh LB.out.row.own
        go_upto_region 7 with fail
        clear k0 k1 k2 k3 k4
        generalize wr.alloc _ = wb at *
        have HLB : Hid (B ≤ wb.heap.size) := LB.out.lo.2.1
        have HLV : Hid (∀ g, (Value.slice VA vs.length vc).ownBlock = some g → g < wb.heap.size) := fun g hg => (LB.out.row.own.lt g hg).2
        have SH : Hid (∀ W, Kp (fun k => (Value.slice VA vs.length vc).ownBlock = some k) wb W → W.cell? ⟨w.heap.size, 4, none⟩ = some (.slice VA vs.length vc) ∧ W.frozen? ⟨w.heap.size, 4, none⟩ = false ∧ W.cell? ⟨wr.heap.size, 0, none⟩ = some (.string g5) ∧ W.cell? ⟨wr.heap.size, 1, none⟩ = some (.string y5) ∧ W.cell? ⟨wr.heap.size, 2, none⟩ = some (.string t5) ∧ W.cell? ⟨wr.heap.size, 3, none⟩ = some (.slice A5 n5 a5) ∧ W.cell? ⟨wr.heap.size, 4, none⟩ = some (.slice K5 kd5.length c5)) := by
          intro W hW
          have ht := LB.out.tb
          have hn : ¬ (Value.slice VA vs.length vc).ownBlock = some w.heap.size := fun e => by have := (LB.out.row.own.lt _ e).1; have := LB.out.lo.2.2.1; omega
          have hx := (hW.block wr.heap.size (blk_lt XB.out) VB.out).trans XB.out
          refine ⟨by rw [hW.cell (blk_lt ht) hn, blk_cell ht]; rfl, by rw [hW.frozen (blk_lt ht) hn]; exact blk_frozen ht 4, ?_, ?_, ?_, ?_, ?_⟩ <;> rw [blk_cell hx] <;> rfl
        refine wp_region_ordN 7 ((true, 0) :: (true, 1) :: (true, 2) :: (false, 3) :: (false, 4) :: (false, 5) :: (true, 6) :: (false, 7) :: []) (fun W => Kp (fun k => (Value.slice VA vs.length vc).ownBlock = some k) wb W) (by kernel_rfl) (by kernel_rfl) (by decide) (by kernel_rfl) (fun d _ _ _ _ h => by cases d <;> exact h) ((Kp.refl _ wb).drew) ?_
        refine ordn_q (d := some 19) (v := ?_) rfl rfl (Or.inl ⟨by rfl, ?_⟩) ?_
        rotate_left
        · intro wz hSw
          obtain ⟨x4, f4, y0, y1, y2, y3, y4⟩ := SH.out wz hSw
          go_simp
          (try with_reducible rfl)
        try simp only [Act.put, List.setIfInBounds_toArray, List.set_cons_zero, List.set_cons_succ]
        refine ordn_q (d := some 20) (v := ?_) rfl rfl (Or.inl ⟨by rfl, ?_⟩) ?_
        rotate_left
        · intro wz hSw
          obtain ⟨x4, f4, y0, y1, y2, y3, y4⟩ := SH.out wz hSw
          go_simp
          (try with_reducible rfl)
        try simp only [Act.put, List.setIfInBounds_toArray, List.set_cons_zero, List.set_cons_succ]
        refine ordn_q (d := some 21) (v := ?_) rfl rfl (Or.inl ⟨by rfl, ?_⟩) ?_
        rotate_left
        · intro wz hSw
          obtain ⟨x4, f4, y0, y1, y2, y3, y4⟩ := SH.out wz hSw
          go_simp
          (try with_reducible rfl)
        try simp only [Act.put, List.setIfInBounds_toArray, List.set_cons_zero, List.set_cons_succ]
        refine ordn_l ?_
        refine wpOp_step rfl (fun K' hK => ?_)
        have HK := Lib.hid hK
        clear hK
        rw [if_pos (by rfl)]
        go_simp
        refine (IH.out _ _ tj wb.drew SK.out (TB.out.call (Below.refl _ wb).drew)).mono ?_
        rintro e w5 hcp
        obtain ⟨v5, rfl, TW0, hb5⟩ := hcp.tree
        have TW : TrW (fun k => noQ k ∨ wb.heap.size ≤ k) w5 v5 tj := TW0.mono (fun k h _ => Or.inr h)
        clear hcp TW0
        obtain ⟨g6, k6, z6, at6, kd6, A6, n6, a6, K6, c6, et, rfl⟩ := TW.parts
        have B5 := Lib.hid ((Below.refl wb.heap.size wb).drew.trans hb5)
        have LP5 := Lib.hid (LB.out.call B5.out)
        have K5p := Lib.hid (Kp.of_below B5.out (fun k => (Value.slice VA vs.length vc).ownBlock = some k))
        have TW5 := Lib.hid TW
        clear TW hb5 et
        refine HK.out _ _ ⟨K5p.out, ?_⟩
        clear HK
        try change OrdN _ _ _ _ _ _ (Act.put _ (some 22) _) _
        try simp only [Act.put, List.setIfInBounds_toArray, List.set_cons_zero, List.set_cons_succ]
        refine ordn_l ?_
        refine wpOp_step rfl (fun K' hK => ?_)
        have HK := Lib.hid hK
        clear hK
        rw [if_pos (by rfl)]
        go_simp
        have LP6 := Lib.hid (LP5.out.call ((Below.refl _ w5).alloc (Nat.le_refl _) (.cells #[.string g6, .string k6, .string z6, .slice A6 n6 a6, .slice K6 kd6.length c6] 27 (0, 0))))
        have K6p := Lib.hid (K5p.out.alloc (.cells #[.string g6, .string k6, .string z6, .slice A6 n6 a6, .slice K6 kd6.length c6] 27 (0, 0)))
        have NB6 := Lib.hid (blk_new w5 (.cells #[.string g6, .string k6, .string z6, .slice A6 n6 a6, .slice K6 kd6.length c6] 27 (0, 0)))
        have TW6 := Lib.hid (TW5.out.call ((Below.refl _ w5).alloc (Nat.le_refl _) (.cells #[.string g6, .string k6, .string z6, .slice A6 n6 a6, .slice K6 kd6.length c6] 27 (0, 0))))
        have B6 := Lib.hid (B5.out.alloc B5.out.size (.cells #[.string g6, .string k6, .string z6, .slice A6 n6 a6, .slice K6 kd6.length c6] 27 (0, 0)))
        generalize w5.alloc _ = w6 at *
        refine HK.out _ _ ⟨K6p.out, ?_⟩
        clear HK
        try change OrdN _ _ _ _ _ _ (Act.put _ (some 23) _) _
        try simp only [Act.put, List.setIfInBounds_toArray, List.set_cons_zero, List.set_cons_succ]
        refine ordn_l ?_
        refine wpOp_step rfl (fun K' hK => ?_)
        have HK := Lib.hid hK
        clear hK
        rw [if_pos (by rfl)]
        refine wp_app elT w6 _ _ rfl B (.slice VA vs.length vc) vs.length vs.flatten rfl LP6.out.row.own LP6.out.lo.2.1 ⟨w5.heap.size, 0, none⟩ 1 1 [.string g6, .string k6, .string z6, .slice A6 n6 a6, .slice K6 kd6.length c6] rfl rfl (World.news_of_block NB6.out) (by intro u hu; simp at hu; rcases hu with rfl | rfl | rfl | rfl | rfl <;> rfl) (by omega) (by omega) ?_
        intro v7 w7 h7 hg7 hv7
        have LP7 := Lib.hid (LP6.out.push (x := [.string g6, .string k6, .string z6, .slice A6 n6 a6, .slice K6 kd6.length c6]) ⟨rfl, by intro u hu; simp at hu; rcases hu with rfl | rfl | rfl | rfl | rfl <;> rfl⟩ wb.heap.size HLB.out HLV.out TW6.out h7 hg7 hv7)
        have K7p := Lib.hid (K6p.out.trans ((Kp.refl (fun k => (Value.slice VA vs.length vc).ownBlock = some k) w6).grown hg7 (fun k _ e => e)) (fun k _ e => e))
        have BW7 := Lib.hid (BB.out.trans ((B6.out.mono BB.out.size).trans ((Below.refl w.heap.size w6).grown hg7 (Nat.le_trans BB.out.size B6.out.size) (fun k hk => by have := (LP6.out.row.own.lt k hk).1; have := LP6.out.lo.1; omega))))
        obtain ⟨A7, a7, rfl, _⟩ := owns_sh h7
        clear h7 hg7 hv7
        refine HK.out _ _ ⟨K7p.out, ?_⟩
        clear HK
        try change OrdN _ _ _ _ _ _ (Act.put _ (some 24) _) _
        try simp only [Act.put, List.setIfInBounds_toArray, List.set_cons_zero, List.set_cons_succ]
        refine ordn_q (d := some 25) (v := ?_) rfl rfl (Or.inl ⟨by rfl, ?_⟩) ?_
        rotate_left
        · intro wz hSw
          obtain ⟨x4, f4, y0, y1, y2, y3, y4⟩ := SH.out wz hSw
          go_simp
          (try with_reducible rfl)
        try simp only [Act.put, List.setIfInBounds_toArray, List.set_cons_zero, List.set_cons_succ]
        refine ordn_last ?_
        refine wpOp_step rfl (fun K' hK => ?_)
        have HK := Lib.hid hK
        clear hK
        rw [if_pos (by rfl)]
        obtain ⟨x4, f4, y0, y1, y2, y3, y4⟩ := SH.out _ K7p.out
        go_simp
        refine HK.out _ _ ?_
        clear HK
        try simp only [Act.put, List.setIfInBounds_toArray, List.set_cons_zero, List.set_cons_succ]
        clear SH x4 f4 y0 y1 y2 y3 y4
        have BW8 := Lib.hid (show Below w.heap.size w (w7.setCell ⟨w.heap.size, 4, none⟩ (.slice A7 (vs.length + 1) a7)) from BW7.out.trans (((Kp.refl (fun k => k = w.heap.size) w7).setCell (p := ⟨w.heap.size, 4, none⟩) (fun _ => rfl) _).below BW7.out.size (fun k hk e => by omega)))
        clear BW7
        generalize w7.setCell _ _ = w8 at *
        go_wp2_with fail
        go_roundw
        case rel =>
          refine ⟨vs.length + 1, _, _, by omega, by go_num, ?_, by rw [TK.out]; exact LP7.out, BW8.out⟩
          simp
        case measure => simp [intOf]; omega
      · have hje : vs.length = ks.length := by omega
        have TE : Hid (ks.take vs.length = ks) := List.take_of_length_le (by omega)
        rw [TE.out] at LP
        have d0 : ¬ (vs.length : Int) < (ks.length : Int) := by omega
        obtain ⟨VA, vc, rfl, _⟩ := owns_sh LP.out.row.own
        have x0 := blk_cell LP.out.tb 0
        have x1 := blk_cell LP.out.tb 1
        have x2 := blk_cell LP.out.tb 2
        have x3 := blk_cell LP.out.tb 3
        have x4 := blk_cell LP.out.tb 4
        have y0 := blk_cell LP.out.rb 0
        have y1 := blk_cell LP.out.rb 1
        have y2 := blk_cell LP.out.rb 2
        have y3 := blk_cell LP.out.rb 3
        have y4 := blk_cell LP.out.rb 4
        have f0 := blk_frozen LP.out.rb 0
        have f1 := blk_frozen LP.out.rb 1
        have f2 := blk_frozen LP.out.rb 2
        have f3 := blk_frozen LP.out.rb 3
        have f4 := blk_frozen LP.out.rb 4
        simp at x0 x1 x2 x3 x4 y0 y1 y2 y3 y4
        clear hje TE
        go_wp2_with fail
        obtain ⟨hT9, hk9⟩ := set5 wr (w.heap.size + 1) 27 (.string g) (.string k) (.string x) (.slice A2 a.length a2) (.slice VA vs.length vc) LP.out.rb rfl
        have hap := LP.out.ap
        have hlo := LP.out.lo
        have hown := LP.out.row.own
        refine tree_end (T := w.heap.size + 1) rfl rfl hT9 ⟨_, _, vs, rfl, ⟨LP.out.at_.frame (p := fun i => i ≠ w.heap.size + 1) (fun ad n c e _ => (hap ad n c e).2.2.2) (fun i hp hl => hk9.block i hl hp), fun ad n c e _ => ((hap ad n c e).1).resolve_left (fun h => h)⟩, hla, ?_, ?_, hlk, BW.out.trans (hk9.below BW.out.size (fun i hi e => by omega))⟩
        · have h1 := LP.out.row.kp hk9 (fun h => h.2.2 rfl) (fun e => by have := (hown.lt _ e).1; omega)
          exact ⟨owns_low h1.own hlo.1, h1.five, h1.len, fun i hi => (h1.tr i hi).mono (fun i hp _ => ⟨(hp.1.1).resolve_left (fun h => h), hp.2⟩)⟩
        · intro gg hg ad n c e _ e2
          have h1 := (hap ad n c e).2.1
          have h2 := (hown.lt gg hg).1
          omega
end Go.Proofs.Ytolklphenllhpaa
