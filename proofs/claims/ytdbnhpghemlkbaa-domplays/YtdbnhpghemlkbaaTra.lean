/-
  Tree: a node with what it holds, as a value in new memory.
-/
import Derived.Test.YtdbnhpghemlkbaaTrr
import Derived.Deep.CutBlock
import Derived.Deep.DeepCutAuto
namespace Go.Proofs.Ytdbnhpghemlkbaa
open Go.RowKit Go.PlainAid Dm
set_option maxRecDepth 100000

theorem owns_low {w : World} {B C : Nat} {e : TypeId} {size n : Nat} {v : Value} {xs : List Value} (h : w.ownsRow B e size v n xs) (hc : C ≤ B) : w.ownsRow C e size v n xs := by
  refine ⟨h.1, ?_⟩
  rcases h.2 with hn | ⟨g, cap, cur, rfl, hb, rest⟩
  · exact .inl hn
  · exact .inr ⟨g, cap, cur, rfl, by omega, rest⟩
theorem tree_end {w3 : World} {T : Nat} {tmps : Array Value} {u0 u1 u2 u3 u4 : Value} {Q : Ending → World → Prop} (ht : tmps.getD 4 undef = .pointer (some ⟨T, 0, none⟩)) (hT : w3.heap[T]? = some (.cells #[u0, u1, u2, u3, u4] 31 (0, 0))) (hq : Q (.returned (.agg #[u0, u1, u2, u3, u4])) w3) :
    bodyPost Try.prog Try.f37 Q .ret { tmps := tmps, defers := [] } w3 :=
  bodyPost_ret (v := .agg #[u0, u1, u2, u3, u4]) (results_cell_row (P := Try.prog) rfl _ _ T 31 _ (0, 0) _ ht hT Try.underlying31 rfl (by kernel_rfl)) rfl hq
section
variable {D : Nat} {s : St}
set_option maxHeartbeats 12800000 in
theorem tree37 (hv : Inv s) (hf : Fit s) (hs : s.top ≤ 1000000) (r : Nat → Nat) (hr : ∀ i, (s.nd i).par ≠ 0 → r i < r (s.nd i).par) (n : Nat) : ∀ (ro : Ros) (w : World) (i : Nat) (t : Tr), Dom mP ro w D s → r i < n → i ≠ 0 → i ≤ s.top → Trs s.nd [i] [t] →
    Calls Try.prog 37 #[.pointer (some ⟨D, 0, none⟩), .int .i64 i] w (TreP noRo t w) := by
  induction n with
  | zero => intro _ _ _ _ _ h; omega
  | succ n ih =>
    intro ro w i t h hn hi0 hi ht
    obtain ⟨ts, rfl, htr⟩ : ∃ ts, t = .mk (s.nd i).tag (s.nd i).key (s.nd i).text (s.nd i).attrs ts ∧ Trs s.nd (s.nd i).kids ts := by
      cases ht with
      | cons a b => exact ⟨_, rfl, a⟩
    have TT := Lib.hid (trs_one htr)
    have IH := Lib.hid ih
    have HN := Lib.hid hn
    have RK : Hid (∀ j, j < (s.nd i).kids.length → r ((s.nd i).kids.getD j 0) < n ∧ (s.nd i).kids.getD j 0 ≠ 0 ∧ (s.nd i).kids.getD j 0 ≤ s.top) := by
      intro j hj
      have hm : (s.nd i).kids.getD j 0 ∈ (s.nd i).kids := by simp [List.getD, hj]
      have hd := hv.down i _ hm
      have hp := hv.live_pos hd.2
      have := hr ((s.nd i).kids.getD j 0) (by rw [hd.1]; exact hi0)
      rw [hd.1] at this
      exact ⟨by omega, by omega, hp.2⟩
    have hkl := kids_len hv i
    have hal := hf i
    obtain ⟨N, c, fv, av, kv, h⟩ := h
    have R0 := Lib.hid h
    obtain ⟨A, a, e1, _, _⟩ := (h.ats i hi).shape
    obtain ⟨K, k, e2, _, _⟩ := (h.ki i hi).shape
    have KC := Lib.hid ((h.ki i hi).kids e2)
    have R1 := h.alloc (.cells #[.string ⟨#[]⟩, .string ⟨#[]⟩, .string ⟨#[]⟩, .slice none 0 0, .slice none 0 0] 31 (0, 0))
    have c0 := R1.c0
    obtain ⟨n0, n1, n2, n3, n4, n5, n6⟩ := R1.nc hi
    rw [e1] at n4
    rw [e2] at n6
    replace n0 : _ = some (Value.int .i64 (kindI (s.nd i))) := n0
    have hi2 : (i : Int) < (s.top : Int) + 1 := by omega
    have BA := Lib.hid (((Below.refl _ w).alloc (Nat.le_refl _) (.cells #[.string ⟨#[]⟩, .string ⟨#[]⟩, .string ⟨#[]⟩, .slice none 0 0, .slice none 0 0] 31 (0, 0))).alloc (by simp) (.cells #[.int .i64 (kindI (s.nd i)), .string (s.nd i).tag, .string (s.nd i).key, .string (s.nd i).text, .slice A (s.nd i).attrs.length a, .int .i64 (s.nd i).par, .slice K (s.nd i).kids.length k] 60 (0, 0)))
    have TB := Lib.hid (blk_alloc (blk_new w (.cells #[.string ⟨#[]⟩, .string ⟨#[]⟩, .string ⟨#[]⟩, .slice none 0 0, .slice none 0 0] 31 (0, 0))) (.cells #[.int .i64 (kindI (s.nd i)), .string (s.nd i).tag, .string (s.nd i).key, .string (s.nd i).text, .slice A (s.nd i).attrs.length a, .int .i64 (s.nd i).par, .slice K (s.nd i).kids.length k] 60 (0, 0)))
    have NB1 := Lib.hid (blk_new1 w (.cells #[.string ⟨#[]⟩, .string ⟨#[]⟩, .string ⟨#[]⟩, .slice none 0 0, .slice none 0 0] 31 (0, 0)) (.cells #[.int .i64 (kindI (s.nd i)), .string (s.nd i).tag, .string (s.nd i).key, .string (s.nd i).text, .slice A (s.nd i).attrs.length a, .int .i64 (s.nd i).par, .slice K (s.nd i).kids.length k] 60 (0, 0)))
    have HL := (h.ats i hi).1
    rw [e1] at HL
    replace HL := Lib.hid (owns_same HL (fun g hg => BA.out.block g (HL.lt g hg).2))
    clear h R1 ih htr hn ht e1 e2
    go_enter Try.func37, Try.ntmps37
    go_upto_region 2 with fail
    clear c0 n0 n1 n2 n3 n4 n5 n6
    generalize (w.alloc _).alloc _ = w1 at *
    have SH : Hid (∀ W, Below w1.heap.size w1 W → W.cell? ⟨w.heap.size + 1, 1, none⟩ = some (.string (s.nd i).tag) ∧ W.cell? ⟨w.heap.size + 1, 2, none⟩ = some (.string (s.nd i).key) ∧ W.cell? ⟨w.heap.size + 1, 3, none⟩ = some (.string (s.nd i).text) ∧ W.cell? ⟨w.heap.size + 1, 4, none⟩ = some (.slice A (s.nd i).attrs.length a)) := by
      intro W hW
      have g := blk_call NB1.out hW
      refine ⟨?_, ?_, ?_, ?_⟩ <;> rw [blk_cell g] <;> rfl
    go_cut [6] (fun s6 wz => ∃ (Tb : Nat) (A2 : Option Addr) (a2 : Nat), s6 = .pointer (some ⟨Tb, 0, none⟩) ∧ Hid (wz.heap[Tb]? = some (.cells #[.string (s.nd i).tag, .string (s.nd i).key, .string (s.nd i).text, .slice A2 (s.nd i).attrs.length a2, .slice none 0 0] 31 (0, 0)) ∧ wz.ownsRow w1.heap.size 45 2 (.slice A2 (s.nd i).attrs.length a2) (s.nd i).attrs.length ((s.nd i).attrs.flatMap atC) ∧ Below w1.heap.size w1 wz ∧ w1.heap.size ≤ Tb))
    case first =>
      refine wp_region_pre 11 (0 :: 1 :: 2 :: 3 :: 4 :: 5 :: 6 :: 7 :: []) 4 (fun W => Below w1.heap.size w1 W) (by kernel_rfl) (by kernel_rfl) (by decide) (by kernel_rfl) (fun d _ _ _ _ h => by cases d <;> exact h) ((Below.refl _ w1).drew) ?_
      refine pre_q (d := some 16) (v := ?_) rfl rfl (Or.inl ⟨by rfl, ?_⟩) ?_
      rotate_left
      · intro wz hSw
        obtain ⟨t1, t2, t3, t4⟩ := SH.out wz hSw
        go_simp
        (try with_reducible rfl)
      try simp only [Act.put, List.setIfInBounds_toArray, List.set_cons_zero, List.set_cons_succ]
      refine pre_q (d := some 17) (v := ?_) rfl rfl (Or.inl ⟨by rfl, ?_⟩) ?_
      rotate_left
      · intro wz hSw
        obtain ⟨t1, t2, t3, t4⟩ := SH.out wz hSw
        go_simp
        (try with_reducible rfl)
      try simp only [Act.put, List.setIfInBounds_toArray, List.set_cons_zero, List.set_cons_succ]
      refine pre_q (d := some 18) (v := ?_) rfl rfl (Or.inl ⟨by rfl, ?_⟩) ?_
      rotate_left
      · intro wz hSw
        obtain ⟨t1, t2, t3, t4⟩ := SH.out wz hSw
        go_simp
        (try with_reducible rfl)
      try simp only [Act.put, List.setIfInBounds_toArray, List.set_cons_zero, List.set_cons_succ]
      refine pre_q (d := some 19) (v := ?_) rfl rfl (Or.inl ⟨by rfl, ?_⟩) ?_
      rotate_left
      · intro wz hSw
        obtain ⟨t1, t2, t3, t4⟩ := SH.out wz hSw
        go_simp
        (try with_reducible rfl)
      try simp only [Act.put, List.setIfInBounds_toArray, List.set_cons_zero, List.set_cons_succ]
      refine pre_q (d := some 20) (v := ?_) rfl rfl (Or.inl ⟨by rfl, ?_⟩) ?_
      rotate_left
      · intro wz hSw
        obtain ⟨t1, t2, t3, t4⟩ := SH.out wz hSw
        go_simp
        (try with_reducible rfl)
      try simp only [Act.put, List.setIfInBounds_toArray, List.set_cons_zero, List.set_cons_succ]
      refine pre_q (d := some 21) (v := ?_) rfl rfl (Or.inl ⟨by rfl, ?_⟩) ?_
      rotate_left
      · intro wz hSw
        obtain ⟨t1, t2, t3, t4⟩ := SH.out wz hSw
        go_simp
        (try with_reducible rfl)
      try simp only [Act.put, List.setIfInBounds_toArray, List.set_cons_zero, List.set_cons_succ]
      refine pre_q (d := some 22) (v := ?_) rfl rfl (Or.inl ⟨by rfl, ?_⟩) ?_
      rotate_left
      · intro wz hSw
        obtain ⟨t1, t2, t3, t4⟩ := SH.out wz hSw
        go_simp
        (try with_reducible rfl)
      try simp only [Act.put, List.setIfInBounds_toArray, List.set_cons_zero, List.set_cons_succ]
      refine pre_q (d := some 23) (v := ?_) rfl rfl (Or.inl ⟨by rfl, ?_⟩) ?_
      rotate_left
      · intro wz hSw
        obtain ⟨t1, t2, t3, t4⟩ := SH.out wz hSw
        go_simp
        (try with_reducible rfl)
      try simp only [Act.put, List.setIfInBounds_toArray, List.set_cons_zero, List.set_cons_succ]
      refine pre_nil ?_
      refine sinkw_vee (i := 8) (j := 10) (by kernel_rfl) ?_ ?_
      focus
        refine wpOp_step rfl (fun K' hK => ?_)
        have HK := Lib.hid hK
        clear hK
        rw [if_pos (by rfl)]
        go_simp
        refine (listOf42 _ _ _ w1.drew (owns_same HL.out (fun g hg => (((Below.refl w1.heap.size w1).drew)).block g (HL.out.lt g hg).2)) (atC_one _) (by omega)).mono ?_
        rintro e w3 ⟨v2, rfl, h2, hb2⟩
        have PS := Lib.hid h2
        have B3 := Lib.hid ((((Below.refl w1.heap.size w1).drew)).trans (hb2.mono (((Below.refl w1.heap.size w1).drew)).size))
        obtain ⟨A2, a2, rfl⟩ := owns_shape h2
        clear h2 hb2
        refine HK.out _ _ ⟨Or.inr B3.out, ?_⟩
        clear HK
        try change SinkW _ _ _ _ _ _ _ _ (Act.put _ (some 24) _) _
        try simp only [Act.put, List.setIfInBounds_toArray, List.set_cons_zero, List.set_cons_succ]
        refine sinkw_take (i := 9) (d := some 25) (v := ?_) rfl rfl (by kernel_rfl) (by kernel_rfl) (fun _ _ _ h => h) (Or.inl ⟨by rfl, ?_⟩) (B3.out) ?_
        rotate_left
        · intro wz hSw
          go_simp
          (try with_reducible rfl)
        try simp only [Act.put, List.setIfInBounds_toArray, List.set_cons_zero, List.set_cons_succ]
        refine sinkw_one (i := 10) (by kernel_rfl) ?_
        refine wpOp_step rfl (fun K' hK => ?_)
        have HK := Lib.hid hK
        clear hK
        rw [if_pos (by rfl)]
        go_simp
        refine HK.out _ _ ⟨Or.inr (B3.out.alloc B3.out.size _), ?_⟩
        clear HK
        try change SinkW _ _ _ _ _ _ _ _ (Act.put _ (some 6) _) _
        try simp only [Act.put, List.setIfInBounds_toArray, List.set_cons_zero, List.set_cons_succ]
        refine sinkw_one (i := 11) (by kernel_rfl) ?_
        refine wpOp_step rfl (fun K' hK => ?_)
        have HK := Lib.hid hK
        clear hK
        rw [if_pos (by rfl)]
        go_simp
        refine HK.out _ _ ⟨Or.inl rfl, ?_⟩
        clear HK
        try simp only [Act.put, List.setIfInBounds_toArray, List.set_cons_zero, List.set_cons_succ]
        refine sinkw_done (by kernel_rfl) ?_
        go_wp2_with fail
        go_meet
        exact ⟨w3.heap.size, A2, a2, rfl, blk_new w3 _, PS.out.alloc _, B3.out.alloc B3.out.size _, B3.out.size⟩
      focus
        refine wpOp_step rfl (fun K' hK => ?_)
        have HK := Lib.hid hK
        clear hK
        rw [if_pos (by rfl)]
        go_simp
        have B2 := Lib.hid (((Below.refl w1.heap.size w1).alloc (Nat.le_refl _) (.cells #[.string ⟨#[]⟩, .string ⟨#[]⟩, .string ⟨#[]⟩, .slice none 0 0, .slice none 0 0] 31 (0, 0))).drew)
        have NB := Lib.hid (show (w1.alloc (.cells #[.string ⟨#[]⟩, .string ⟨#[]⟩, .string ⟨#[]⟩, .slice none 0 0, .slice none 0 0] 31 (0, 0))).drew.heap[w1.heap.size]? = _ from blk_new w1 _)
        generalize (w1.alloc _).drew = w2 at *
        refine HK.out _ _ ⟨Or.inr B2.out, ?_⟩
        clear HK
        try change SinkW _ _ _ _ _ _ _ _ (Act.put _ (some 6) _) _
        try simp only [Act.put, List.setIfInBounds_toArray, List.set_cons_zero, List.set_cons_succ]
        refine sinkw_one (i := 8) (by kernel_rfl) ?_
        refine wpOp_step rfl (fun K' hK => ?_)
        have HK := Lib.hid hK
        clear hK
        rw [if_pos (by rfl)]
        go_simp
        refine (listOf42 _ _ _ w2 (owns_same HL.out (fun g hg => (B2.out).block g (HL.out.lt g hg).2)) (atC_one _) (by omega)).mono ?_
        rintro e w3 ⟨v2, rfl, h2, hb2⟩
        have PS := Lib.hid h2
        have B3 := Lib.hid ((B2.out).trans (hb2.mono (B2.out).size))
        obtain ⟨A2, a2, rfl⟩ := owns_shape h2
        have HB2 := Lib.hid hb2
        clear h2 hb2
        have NB3 := Lib.hid (blk_call NB.out (show Below w2.heap.size w2 w3 from HB2.out))
        refine HK.out _ _ ⟨Or.inr B3.out, ?_⟩
        clear HK
        try change SinkW _ _ _ _ _ _ _ _ (Act.put _ (some 24) _) _
        try simp only [Act.put, List.setIfInBounds_toArray, List.set_cons_zero, List.set_cons_succ]
        refine sinkw_take (i := 9) (d := some 25) (v := ?_) rfl rfl (by kernel_rfl) (by kernel_rfl) (fun _ _ _ h => h) (Or.inl ⟨by rfl, ?_⟩) (B3.out) ?_
        rotate_left
        · intro wz hSw
          go_simp
          (try with_reducible rfl)
        try simp only [Act.put, List.setIfInBounds_toArray, List.set_cons_zero, List.set_cons_succ]
        refine sinkw_one (i := 11) (by kernel_rfl) ?_
        refine wpOp_step rfl (fun K' hK => ?_)
        have HK := Lib.hid hK
        clear hK
        rw [if_pos (by rfl)]
        have z0 := blk_cell NB3.out 0
        have z1 := blk_cell NB3.out 1
        have z2 := blk_cell NB3.out 2
        have z3 := blk_cell NB3.out 3
        have z4 := blk_cell NB3.out 4
        have y0 := blk_frozen NB3.out 0
        have y1 := blk_frozen NB3.out 1
        have y2 := blk_frozen NB3.out 2
        have y3 := blk_frozen NB3.out 3
        have y4 := blk_frozen NB3.out 4
        simp at z0 z1 z2 z3 z4
        go_simp
        refine HK.out _ _ ⟨Or.inl rfl, ?_⟩
        clear HK
        try simp only [Act.put, List.setIfInBounds_toArray, List.set_cons_zero, List.set_cons_succ]
        refine sinkw_done (by kernel_rfl) ?_
        obtain ⟨hT5, hk5⟩ := set5 w3 w1.heap.size 31 (.string (s.nd i).tag) (.string (s.nd i).key) (.string (s.nd i).text) (.slice A2 (s.nd i).attrs.length a2) (.slice none 0 0) NB3.out rfl
        have hlt2 := blk_lt NB.out
        go_wp2_with fail
        go_meet
        refine ⟨w1.heap.size, A2, a2, rfl, hT5, ?_, B3.out.trans (hk5.below B3.out.size (fun k hk e => by omega)), Nat.le_refl _⟩
        have hlow : w3.ownsRow w1.heap.size 45 2 (.slice A2 (s.nd i).attrs.length a2) (s.nd i).attrs.length ((s.nd i).attrs.flatMap atC) := owns_low PS.out (by omega)
        exact owns_sameB hlow (fun g hg => hk5.block g (PS.out.lt g hg).2 (fun e => by have := (PS.out.lt g hg).1; omega))
    case rest =>
      obtain ⟨Tb, A2, a2, rfl, hq⟩ := hcut
      have HQ := Lib.hid hq
      clear hq SH
      generalize wc = wz at *
      have hR1 : w.heap.size < w1.heap.size := by have := blk_lt TB.out; omega
      have L0 : LpT noRo w1 w.heap.size Tb (s.nd i).tag (s.nd i).key (s.nd i).text (s.nd i).attrs A2 a2 wz.heap.size wz (.slice none 0 0) [] (ts.take 0) := by
        obtain ⟨q1, q2, q3, q4⟩ := HQ.out
        refine ⟨q1, blk_call TB.out q3, owns_ps q2, fun ad n c e => ?_, by rw [List.take_zero]; exact trR_nil _ _ _, ⟨q3.size, Nat.le_refl _, blk_lt q1, by have := q3.size; omega, by omega⟩, fun k hk => ?_, ?_⟩
        · have hown : (Value.slice A2 (s.nd i).attrs.length a2).ownBlock = some ad.block := by rw [e]; rfl
          have hl := q2.lt _ hown
          refine ⟨Or.inr hl.1, hl.2, fun e2 => ?_, by omega⟩
          rcases q2.2 with ⟨e3, _⟩ | ⟨g, cap, cur, e3, _, hg, _⟩
          · rw [e3] at e; cases e
          · rw [e3] at e
            cases e
            have e2' : g = Tb := e2
            rw [e2', q1] at hg
            cases hg
        · exact absurd rfl hk
        · exact ⟨rfl, rfl⟩
      have L1 := Lib.hid L0
      have BZ := Lib.hid (BA.out.trans (HQ.out.2.2.1.mono BA.out.size))
      have n6 : wz.cell? ⟨w.heap.size + 1, 6, none⟩ = some (.slice K (s.nd i).kids.length k) := by
        rw [blk_cell (blk_call NB1.out HQ.out.2.2.1)]
        rfl
      clear L0
      generalize hB : wz.heap.size = B at *
      clear hB
      go_wp2_with fail
      clear n6
      go_loopw [29] (fun p29 wr => ∃ (j : Nat) (v : Value) (vs : List (List Value)), j ≤ (s.nd i).kids.length ∧ p29 = .int .i64 j ∧ vs.length = j ∧ Hid (LpT noRo w1 w.heap.size Tb (s.nd i).tag (s.nd i).key (s.nd i).text (s.nd i).attrs A2 a2 B wr v vs (ts.take j)) ∧ Hid (Below w.heap.size w wr)) (fun p _ => (s.nd i).kids.length - (intOf p).toNat)
      case atStart => exact ⟨0, _, [], Nat.zero_le _, rfl, rfl, L1.out, BZ.out⟩
      case round =>
        obtain ⟨j, v, vs, hj, rfl, hvs, LP, BW⟩ := hrel
        have HQ2 : Hid (w.heap.size ≤ Tb) := Nat.le_trans BA.out.size HQ.out.2.2.2
        clear L1 BZ HQ
        subst hvs
        by_cases hlt : vs.length < (s.nd i).kids.length
        · have d0 : (vs.length : Int) < ((s.nd i).kids.length : Int) := by omega
          have d1 : (vs.length : Int) < 1000000 := by omega
          obtain ⟨g, rfl, hg, hcg⟩ := KC.out vs.length hlt
          have hcw : wr.cell? ⟨g, vs.length, none⟩ = some (.int .i64 ((s.nd i).kids.getD vs.length 0 : Nat)) := by
            rw [BW.out.cell (World.block_lt_of_cell? w _ hcg)]
            exact hcg
          have RKJ := Lib.hid (RK.out vs.length hlt)
          have TJ := Lib.hid (TT.out.2 vs.length hlt)
          have TK : Hid (ts.take (vs.length + 1) = ts.take vs.length ++ [ts.getD vs.length tr0]) := by
            have hl : vs.length < ts.length := by rw [TT.out.1]; exact hlt
            show ts.take (vs.length + 1) = _
            rw [List.take_add_one]
            simp [List.getD, hl]
          have DM : Hid (Dom mP ro wr.drew D s) := ⟨N, c, fv, av, kv, (R0.out.call (BW.out.drew))⟩
          obtain ⟨VA, vc, rfl⟩ := owns_shape LP.out.row.own
          have HLB : Hid (B ≤ wr.heap.size) := LP.out.lo.2.1
          have HLV : Hid (∀ g, (Value.slice VA vs.length vc).ownBlock = some g → g < wr.heap.size) := fun g hg => (LP.out.row.own.lt g hg).2
          have SH : Hid (∀ W, Kp (fun k => (Value.slice VA vs.length vc).ownBlock = some k) wr W → W.cell? ⟨Tb, 4, none⟩ = some (.slice VA vs.length vc) ∧ W.frozen? ⟨Tb, 4, none⟩ = false) := by
            intro W hW
            have ht := LP.out.tb
            have hn : ¬ (Value.slice VA vs.length vc).ownBlock = some Tb := fun e => by have := (LP.out.row.own.lt _ e).1; have := LP.out.lo.2.2.1; omega
            exact ⟨by rw [hW.cell (blk_lt ht) hn, blk_cell ht]; rfl, by rw [hW.frozen (blk_lt ht) hn]; exact blk_frozen ht 4⟩
          generalize (s.nd i).kids.getD vs.length 0 = kid at *
          generalize ts.getD vs.length tr0 = tj at *
          have hvl : vs.length ≤ 1000000 := by omega
          clear hcg
          go_upto_region 6 with fail
          refine wp_region_ordN 8 ((true, 0) :: (true, 1) :: (true, 2) :: (true, 3) :: (false, 4) :: (false, 5) :: (false, 6) :: (true, 7) :: (false, 8) :: []) (fun W => Kp (fun k => (Value.slice VA vs.length vc).ownBlock = some k) wr W) (by kernel_rfl) (by kernel_rfl) (by decide) (by kernel_rfl) (fun d _ _ _ _ h => by cases d <;> exact h) ((Kp.refl _ wr).drew) ?_
          refine ordn_q (d := some 33) (v := ?_) rfl rfl (Or.inl ⟨by rfl, ?_⟩) ?_
          rotate_left
          · intro wz hSw
            obtain ⟨x4, f4⟩ := SH.out wz hSw
            go_simp
            (try with_reducible rfl)
          try simp only [Act.put, List.setIfInBounds_toArray, List.set_cons_zero, List.set_cons_succ]
          refine ordn_q (d := some 34) (v := ?_) rfl rfl (Or.inl ⟨by rfl, ?_⟩) ?_
          rotate_left
          · intro wz hSw
            obtain ⟨x4, f4⟩ := SH.out wz hSw
            go_simp
            (try with_reducible rfl)
          try simp only [Act.put, List.setIfInBounds_toArray, List.set_cons_zero, List.set_cons_succ]
          refine ordn_q (d := some 35) (v := ?_) rfl rfl (Or.inl ⟨by rfl, ?_⟩) ?_
          rotate_left
          · intro wz hSw
            obtain ⟨x4, f4⟩ := SH.out wz hSw
            go_simp
            (try with_reducible rfl)
          try simp only [Act.put, List.setIfInBounds_toArray, List.set_cons_zero, List.set_cons_succ]
          refine ordn_q (d := some 36) (v := ?_) rfl rfl (Or.inl ⟨by rfl, ?_⟩) ?_
          rotate_left
          · intro wz hSw
            obtain ⟨x4, f4⟩ := SH.out wz hSw
            go_simp
            (try with_reducible rfl)
          try simp only [Act.put, List.setIfInBounds_toArray, List.set_cons_zero, List.set_cons_succ]
          refine ordn_l ?_
          refine wpOp_step rfl (fun K' hK => ?_)
          have HK := Lib.hid hK
          clear hK
          rw [if_pos (by rfl)]
          go_simp
          refine (IH.out ro wr.drew kid tj DM.out RKJ.out.1 RKJ.out.2.1 RKJ.out.2.2 TJ.out).mono ?_
          rintro e w5 ⟨v5, rfl, TW, hb5⟩
          obtain ⟨g5, k5, x5, at5, kd5, A5, n5, a5, K5, c5, et, rfl⟩ := TW.parts
          have B5 := Lib.hid ((Below.refl wr.heap.size wr).drew.trans hb5)
          have LP5 := Lib.hid (LP.out.call B5.out)
          have K5p := Lib.hid (Kp.of_below B5.out (fun k => (Value.slice VA vs.length vc).ownBlock = some k))
          have TW5 := Lib.hid TW
          clear TW hb5 et
          refine HK.out _ _ ⟨K5p.out, ?_⟩
          clear HK
          try change OrdN _ _ _ _ _ _ (Act.put _ (some 37) _) _
          try simp only [Act.put, List.setIfInBounds_toArray, List.set_cons_zero, List.set_cons_succ]
          refine ordn_l ?_
          refine wpOp_step rfl (fun K' hK => ?_)
          have HK := Lib.hid hK
          clear hK
          rw [if_pos (by rfl)]
          go_simp
          have LP6 := Lib.hid (LP5.out.call ((Below.refl _ w5).alloc (Nat.le_refl _) (.cells #[.string g5, .string k5, .string x5, .slice A5 n5 a5, .slice K5 kd5.length c5] 31 (0, 0))))
          have K6p := Lib.hid (K5p.out.alloc (.cells #[.string g5, .string k5, .string x5, .slice A5 n5 a5, .slice K5 kd5.length c5] 31 (0, 0)))
          have NB6 := Lib.hid (blk_new w5 (.cells #[.string g5, .string k5, .string x5, .slice A5 n5 a5, .slice K5 kd5.length c5] 31 (0, 0)))
          have TW6 := Lib.hid (TW5.out.call ((Below.refl _ w5).alloc (Nat.le_refl _) (.cells #[.string g5, .string k5, .string x5, .slice A5 n5 a5, .slice K5 kd5.length c5] 31 (0, 0))))
          have B6 := Lib.hid (B5.out.alloc B5.out.size (.cells #[.string g5, .string k5, .string x5, .slice A5 n5 a5, .slice K5 kd5.length c5] 31 (0, 0)))
          generalize w5.alloc _ = w6 at *
          refine HK.out _ _ ⟨K6p.out, ?_⟩
          clear HK
          try change OrdN _ _ _ _ _ _ (Act.put _ (some 38) _) _
          try simp only [Act.put, List.setIfInBounds_toArray, List.set_cons_zero, List.set_cons_succ]
          refine ordn_l ?_
          refine wpOp_step rfl (fun K' hK => ?_)
          have HK := Lib.hid hK
          clear hK
          rw [if_pos (by rfl)]
          refine wp_app elT w6 _ _ rfl B (.slice VA vs.length vc) vs.length vs.flatten rfl LP6.out.row.own LP6.out.lo.2.1 ⟨w5.heap.size, 0, none⟩ 1 1 [.string g5, .string k5, .string x5, .slice A5 n5 a5, .slice K5 kd5.length c5] rfl rfl (World.news_of_block NB6.out) (by intro u hu; simp at hu; rcases hu with rfl | rfl | rfl | rfl | rfl <;> rfl) (by omega) (by omega) ?_
          intro v7 w7 h7 hg7 hv7
          have LP7 := Lib.hid (LP6.out.push (x := [.string g5, .string k5, .string x5, .slice A5 n5 a5, .slice K5 kd5.length c5]) ⟨rfl, by intro u hu; simp at hu; rcases hu with rfl | rfl | rfl | rfl | rfl <;> rfl⟩ wr.heap.size HLB.out HLV.out TW6.out h7 hg7 hv7)
          have K7p := Lib.hid (K6p.out.trans ((Kp.refl (fun k => (Value.slice VA vs.length vc).ownBlock = some k) w6).grown hg7 (fun k _ e => e)) (fun k _ e => e))
          have BW7 := Lib.hid (BW.out.trans ((B6.out.mono BW.out.size).trans ((Below.refl w.heap.size w6).grown hg7 (Nat.le_trans BW.out.size B6.out.size) (fun k hk => by have := (LP6.out.row.own.lt k hk).1; have := LP6.out.lo.1; have := BA.out.size; omega))))
          obtain ⟨A7, a7, rfl⟩ := owns_shape h7
          clear h7 hg7 hv7
          refine HK.out _ _ ⟨K7p.out, ?_⟩
          clear HK
          try change OrdN _ _ _ _ _ _ (Act.put _ (some 39) _) _
          try simp only [Act.put, List.setIfInBounds_toArray, List.set_cons_zero, List.set_cons_succ]
          refine ordn_q (d := some 40) (v := ?_) rfl rfl (Or.inl ⟨by rfl, ?_⟩) ?_
          rotate_left
          · intro wz hSw
            obtain ⟨x4, f4⟩ := SH.out wz hSw
            go_simp
            (try with_reducible rfl)
          try simp only [Act.put, List.setIfInBounds_toArray, List.set_cons_zero, List.set_cons_succ]
          refine ordn_last ?_
          refine wpOp_step rfl (fun K' hK => ?_)
          have HK := Lib.hid hK
          clear hK
          rw [if_pos (by rfl)]
          obtain ⟨x4, f4⟩ := SH.out _ K7p.out
          go_simp
          refine HK.out _ _ ?_
          clear HK
          try simp only [Act.put, List.setIfInBounds_toArray, List.set_cons_zero, List.set_cons_succ]
          clear SH x4 f4
          have BW8 := Lib.hid (show Below w.heap.size w (w7.setCell ⟨Tb, 4, none⟩ (.slice A7 (vs.length + 1) a7)) from BW7.out.trans (((Kp.refl (fun k => k = Tb) w7).setCell (p := ⟨Tb, 4, none⟩) (fun _ => rfl) _).below BW7.out.size (fun k hk e => by have := HQ2.out; omega)))
          clear BW7
          generalize w7.setCell _ _ = w8 at *
          go_wp2_with fail
          go_roundw
          case rel =>
            refine ⟨vs.length + 1, _, _, by omega, by go_num, ?_, by rw [TK.out]; exact LP7.out, BW8.out⟩
            simp
          case measure => simp [intOf]; omega
        · have hje : vs.length = (s.nd i).kids.length := by omega
          have TE : Hid (ts.take vs.length = ts ∧ ts.length ≤ 1000000) := by
            have := TT.out.1
            exact ⟨List.take_of_length_le (by omega), by omega⟩
          have d0 : ¬ (vs.length : Int) < ((s.nd i).kids.length : Int) := by omega
          obtain ⟨VA, vc, rfl⟩ := owns_shape LP.out.row.own
          have x0 := blk_cell LP.out.tb 0
          have x1 := blk_cell LP.out.tb 1
          have x2 := blk_cell LP.out.tb 2
          have x3 := blk_cell LP.out.tb 3
          have x4 := blk_cell LP.out.tb 4
          have y0 := blk_cell LP.out.rb 0
          have y1 := blk_cell LP.out.rb 1
          have y2 := blk_cell LP.out.rb 2
          have y3 := blk_cell LP.out.rb 3
          have y4 := blk_cell LP.out.rb 4
          have f0 := blk_frozen LP.out.rb 0
          have f1 := blk_frozen LP.out.rb 1
          have f2 := blk_frozen LP.out.rb 2
          have f3 := blk_frozen LP.out.rb 3
          have f4 := blk_frozen LP.out.rb 4
          simp at x0 x1 x2 x3 x4 y0 y1 y2 y3 y4
          have hje2 := Lib.hid hje
          clear hje
          go_wp2_with fail
          obtain ⟨hT9, hk9⟩ := set5 wr w.heap.size 31 (.string (s.nd i).tag) (.string (s.nd i).key) (.string (s.nd i).text) (.slice A2 (s.nd i).attrs.length a2) (.slice VA vs.length vc) LP.out.rb rfl
          have hap := LP.out.ap
          have hlo := LP.out.lo
          have htr := LP.out.row.tree (p := fun k => (noRo k ≠ 0 ∨ w1.heap.size ≤ k) ∧ k ≠ Tb ∧ k ≠ w.heap.size) (fun k hk => ⟨Or.inr (by omega), by omega, by omega⟩) (tag := (s.nd i).tag) (key := (s.nd i).key) (text := (s.nd i).text) ⟨hal, by rw [TE.out.1]; exact TE.out.2⟩ LP.out.at_ (fun a n c e _ => ⟨(hap a n c e).1, (hap a n c e).2.2⟩)
          rw [TE.out.1] at htr
          have htr2 := (htr.frame (fun k hp hl => hk9.block k hl hp.2.2)).mono (q := fun k => noRo k ≠ 0 ∨ w.heap.size ≤ k) (fun k hp _ => hp.1.imp id (fun e => Nat.le_trans BA.out.size e))
          exact tree_end rfl hT9 ⟨_, rfl, htr2, BW.out.trans (hk9.below BW.out.size (fun k hk e => by omega))⟩
end
end Go.Proofs.Ytdbnhpghemlkbaa
