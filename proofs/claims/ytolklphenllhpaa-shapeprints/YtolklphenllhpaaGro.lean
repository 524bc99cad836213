/-
  porticokeep's grow: the tree of nodes.
-/
import Derived.Test.YtolklphenllhpaaKea
namespace Go.Proofs.Ytolklphenllhpaa
open Go.RowKit Go.PlainAid
set_option maxRecDepth 100000

set_option maxHeartbeats 12800000 in
theorem grow23 (q : Nat → Prop) (nd : List Nde) (l : List Int) (hl : l.length = nd.length) (hU : ∀ i, i < nd.length → unF l i < (i : Int)) (hn : nd.length ≤ 13) (m : Nat) : ∀ (vn vu : Value) (a : Nat) (w : World), nd.length - a ≤ m → a < nd.length → Nr q w vn nd → Ni w vu l → (∀ k, q k → k < w.heap.size) →
    Calls Try.prog 23 #[vn, vu, .int .i64 a] w fun e w' => ∃ v, e = .returned v ∧ TrW (fun k => q k ∨ w.heap.size ≤ k) w' v (gT (ndF nd) (unF l) nd.length a) ∧ Below w.heap.size w w' := by
  induction m with
  | zero => intro vn vu a w h1 h2; omega
  | succ m ih =>
    intro vn vu a w hm ha hN hNi hq
    have IH := Lib.hid ih
    have NR := Lib.hid hN
    have NI := Lib.hid hNi
    have HU := Lib.hid hU
    have HQ := Lib.hid hq
    obtain ⟨A, c, rfl, hcn⟩ := hN
    obtain ⟨A', c', ev, _, _, hcu⟩ := hNi
    rw [hl] at ev
    subst ev
    have CN := Lib.hid hcn
    have CU := Lib.hid hcu
    obtain ⟨bA, oA, av, rfl, h0, h1, h2, h3, h4, h5, hA6, h6⟩ := hcn a ha
    have HA := Lib.hid hA6
    clear hA6
    obtain ⟨A2, a2, rfl, hA5⟩ := id h5.1
    have GE : Hid (gT (ndF nd) (unF l) nd.length a = .mk (ndF nd a).tag (ndF nd a).key (ndF nd a).text (ndF nd a).attrs ((kK (unF l) nd.length a).map (gT (ndF nd) (unF l) nd.length))) := gT_eq _ _ _ _
    have d0 : (a : Int) < (nd.length : Int) := by omega
    clear ih hU hq hcn hcu hA5
    change w.cell? _ = some (.string (ndF nd a).tag) at h0
    change w.cell? _ = some (.string (ndF nd a).key) at h1
    change w.cell? _ = some (.string (ndF nd a).text) at h2
    change w.cell? _ = some (.slice A2 (ndF nd a).attrs.length a2) at h3
    replace h5 : At q w (.slice A2 (ndF nd a).attrs.length a2) (ndF nd a).attrs := h5
    replace h6 : (ndF nd a).attrs.length ≤ 1 := h6
    have hR1 := (Below.refl _ w).alloc (Nat.le_refl _) (.cells #[.string ⟨#[]⟩, .string ⟨#[]⟩, .string ⟨#[]⟩, .slice none 0 0, .slice none 0 0] 27 (0, 0))
    have gR : ∀ (p : Addr) (u : Value), w.cell? p = some u → (w.alloc (.cells #[.string ⟨#[]⟩, .string ⟨#[]⟩, .string ⟨#[]⟩, .slice none 0 0, .slice none 0 0] 27 (0, 0))).cell? p = some u := fun p u h => by
      rw [hR1.cell (World.block_lt_of_cell? w _ h)]; exact h
    replace h0 := gR _ _ h0
    replace h1 := gR _ _ h1
    replace h2 := gR _ _ h2
    replace h3 := gR _ _ h3
    replace h4 := gR _ _ h4
    generalize (ndF nd a).tag = tg at *
    generalize (ndF nd a).key = ky at *
    generalize (ndF nd a).text = tx at *
    generalize (ndF nd a).attrs = at_ at *
    have hb0 := hR1.alloc (by simp) (.cells #[.string tg, .string ky, .string tx, .slice A2 at_.length a2, .slice none 0 0] 27 (0, 0))
    have R0 := Lib.hid (blk_alloc (blk_new w (.cells #[.string ⟨#[]⟩, .string ⟨#[]⟩, .string ⟨#[]⟩, .slice none 0 0, .slice none 0 0] 27 (0, 0))) (.cells #[.string tg, .string ky, .string tx, .slice A2 at_.length a2, .slice none 0 0] 27 (0, 0)))
    have X0 := Lib.hid (blk_new1 w (.cells #[.string ⟨#[]⟩, .string ⟨#[]⟩, .string ⟨#[]⟩, .slice none 0 0, .slice none 0 0] 27 (0, 0)) (.cells #[.string tg, .string ky, .string tx, .slice A2 at_.length a2, .slice none 0 0] 27 (0, 0)))
    have B0 := Lib.hid hb0
    have A0 := Lib.hid (h5.call hb0)
    clear hb0 hR1 gR h5
    go_enter Try.func23, Try.ntmps23
    go_upto_region 2 with fail
    clear h0 h1 h2 h3 h4
    generalize hw1 : (w.alloc _).alloc _ = w1 at *
    have hz1 : w1.heap.size = w.heap.size + 2 := by rw [← hw1]; simp
    clear hw1
    have L0 : LpT q w w.heap.size (w.heap.size + 1) tg ky tx at_ A2 a2 w1.heap.size w1 (.slice none 0 0) [] (([] : List Nat).map (gT (ndF nd) (unF l) nd.length)) := by
      refine ⟨X0.out, R0.out, A0.out.1, fun ad n c e => ?_, trR_nil _ _ _, ⟨B0.out.size, Nat.le_refl _, by omega, by omega, by omega⟩, HQ.out, ⟨fun h => by have := HQ.out _ h; omega, fun h => by have := HQ.out _ h; omega⟩⟩
      have hq := HA.out ad n c e
      have hl := HQ.out _ hq
      exact ⟨Or.inl hq, by omega, by omega, by omega⟩
    have L1 := Lib.hid L0
    have HZ : Hid (w1.heap.size = w.heap.size + 2) := hz1
    clear L0 X0 R0 A0 hz1
    go_wp2_with fail
    generalize w1.heap.size = B at *
    go_loopw [15] (fun p15 wr => ∃ (j : Nat) (v : Value) (vs : List (List Value)), j ≤ nd.length ∧ p15 = .int .i64 j ∧ Hid (LpT q w w.heap.size (w.heap.size + 1) tg ky tx at_ A2 a2 B wr v vs ((kK (unF l) j a).map (gT (ndF nd) (unF l) nd.length))) ∧ Hid (Below w.heap.size w wr)) (fun p _ => nd.length - (intOf p).toNat)
    case atStart => exact ⟨0, _, [], Nat.zero_le _, rfl, L1.out, B0.out⟩
    case round =>
      obtain ⟨j, v, vs, hj, rfl, LP, BW⟩ := hrel
      clear L1 B0
      have KN := Lib.hid (kK_next (unF l) a j)
      have hvl : vs.length ≤ 1000 := by
        have h1 := LP.out.row.len
        have h2 := kK_len (unF l) j a
        rw [List.length_map] at h1
        omega
      by_cases hlt : j < nd.length
      · have d0 : (j : Int) < (nd.length : Int) := by omega
        have d1 : (j : Int) < (l.length : Int) := by omega
        obtain ⟨bU, oU, rfl, hu⟩ := CU.out j (by omega)
        have g1 : wr.cell? ⟨bU, oU + j, none⟩ = some (.int .i64 (unF l j)) := by rw [BW.out.cell (World.block_lt_of_cell? _ _ hu)]; exact hu
        have hju := HU.out j hlt
        clear hu
        obtain ⟨VA, vc, rfl, _⟩ := owns_sh LP.out.row.own
        by_cases he : unF l j = (a : Int)
        · have q1 : (unF l j == (a : Int)) = true := by rw [he]; simp
          have KE : Hid (kK (unF l) (j + 1) a = kK (unF l) j a ++ [j]) := by rw [Hid, KN.out, if_pos ⟨by omega, he⟩]
          have NJ := Lib.hid (NR.out.call BW.out)
          have NU := Lib.hid (NI.out.call BW.out)
          have QB : Hid (∀ k, q k → k < wr.heap.size) := fun k hk => Nat.lt_of_lt_of_le (HQ.out k hk) BW.out.size
          have HM : Hid (nd.length - j ≤ m) := by show _ ≤ _; omega
          clear he KN
          generalize unF l j = u at *
          have HLB : Hid (B ≤ wr.heap.size) := LP.out.lo.2.1
          have HLV : Hid (∀ g, (Value.slice VA vs.length vc).ownBlock = some g → g < wr.heap.size) := fun g hg => (LP.out.row.own.lt g hg).2
          have SH : Hid (∀ W, Kp (fun k => (Value.slice VA vs.length vc).ownBlock = some k) wr W → W.cell? ⟨w.heap.size + 1, 4, none⟩ = some (.slice VA vs.length vc) ∧ W.frozen? ⟨w.heap.size + 1, 4, none⟩ = false) := by
            intro W hW
            have ht := LP.out.tb
            have hn : ¬ (Value.slice VA vs.length vc).ownBlock = some (w.heap.size + 1) := fun e => by have := (LP.out.row.own.lt _ e).1; have := LP.out.lo.2.2.1; omega
            exact ⟨by rw [hW.cell (blk_lt ht) hn, blk_cell ht]; rfl, by rw [hW.frozen (blk_lt ht) hn]; exact blk_frozen ht 4⟩
          go_upto_region 6 with fail
          refine wp_region_ordN 9 ((true, 0) :: (true, 1) :: (true, 2) :: (true, 3) :: (true, 4) :: (false, 5) :: (false, 6) :: (false, 7) :: (true, 8) :: (false, 9) :: []) (fun W => Kp (fun k => (Value.slice VA vs.length vc).ownBlock = some k) wr W) (by kernel_rfl) (by kernel_rfl) (by decide) (by kernel_rfl) (fun d _ _ _ _ h => by cases d <;> exact h) ((Kp.refl _ wr).drew) ?_
          refine ordn_q (d := some 24) (v := ?_) rfl rfl (Or.inl ⟨by rfl, ?_⟩) ?_
          rotate_left
          · intro wz hSw
            obtain ⟨x4, f4⟩ := SH.out wz hSw
            go_simp
            (try with_reducible rfl)
          try simp only [Act.put, List.setIfInBounds_toArray, List.set_cons_zero, List.set_cons_succ]
          refine ordn_q (d := some 25) (v := ?_) rfl rfl (Or.inl ⟨by rfl, ?_⟩) ?_
          rotate_left
          · intro wz hSw
            obtain ⟨x4, f4⟩ := SH.out wz hSw
            go_simp
            (try with_reducible rfl)
          try simp only [Act.put, List.setIfInBounds_toArray, List.set_cons_zero, List.set_cons_succ]
          refine ordn_q (d := some 26) (v := ?_) rfl rfl (Or.inl ⟨by rfl, ?_⟩) ?_
          rotate_left
          · intro wz hSw
            obtain ⟨x4, f4⟩ := SH.out wz hSw
            go_simp
            (try with_reducible rfl)
          try simp only [Act.put, List.setIfInBounds_toArray, List.set_cons_zero, List.set_cons_succ]
          refine ordn_q (d := some 27) (v := ?_) rfl rfl (Or.inl ⟨by rfl, ?_⟩) ?_
          rotate_left
          · intro wz hSw
            obtain ⟨x4, f4⟩ := SH.out wz hSw
            go_simp
            (try with_reducible rfl)
          try simp only [Act.put, List.setIfInBounds_toArray, List.set_cons_zero, List.set_cons_succ]
          refine ordn_q (d := some 28) (v := ?_) rfl rfl (Or.inl ⟨by rfl, ?_⟩) ?_
          rotate_left
          · intro wz hSw
            obtain ⟨x4, f4⟩ := SH.out wz hSw
            go_simp
            (try with_reducible rfl)
          try simp only [Act.put, List.setIfInBounds_toArray, List.set_cons_zero, List.set_cons_succ]
          refine ordn_l ?_
          refine wpOp_step rfl (fun K' hK => ?_)
          have HK := Lib.hid hK
          clear hK
          rw [if_pos (by rfl)]
          go_simp
          refine (IH.out _ _ j wr.drew HM.out hlt (NJ.out.call (Below.refl _ wr).drew) (NU.out.call (Below.refl _ wr).drew) QB.out).mono ?_
          rintro e w5 ⟨v5, rfl, TW, hb5⟩
          replace TW : TrW (fun k => q k ∨ wr.heap.size ≤ k) w5 v5 (gT (ndF nd) (unF l) nd.length j) := TW
          obtain ⟨g6, k6, z6, at6, kd6, A6, n6, a6, K6, c6, et, rfl⟩ := TW.parts
          have B5 := Lib.hid ((Below.refl wr.heap.size wr).drew.trans hb5)
          have LP5 := Lib.hid (LP.out.call B5.out)
          have K5p := Lib.hid (Kp.of_below B5.out (fun k => (Value.slice VA vs.length vc).ownBlock = some k))
          have TW5 := Lib.hid TW
          clear TW hb5 et
          refine HK.out _ _ ⟨K5p.out, ?_⟩
          clear HK
          try change OrdN _ _ _ _ _ _ (Act.put _ (some 29) _) _
          try simp only [Act.put, List.setIfInBounds_toArray, List.set_cons_zero, List.set_cons_succ]
          refine ordn_l ?_
          refine wpOp_step rfl (fun K' hK => ?_)
          have HK := Lib.hid hK
          clear hK
          rw [if_pos (by rfl)]
          go_simp
          have LP6 := Lib.hid (LP5.out.call ((Below.refl _ w5).alloc (Nat.le_refl _) (.cells #[.string g6, .string k6, .string z6, .slice A6 n6 a6, .slice K6 kd6.length c6] 27 (0, 0))))
          have K6p := Lib.hid (K5p.out.alloc (.cells #[.string g6, .string k6, .string z6, .slice A6 n6 a6, .slice K6 kd6.length c6] 27 (0, 0)))
          have NB6 := Lib.hid (blk_new w5 (.cells #[.string g6, .string k6, .string z6, .slice A6 n6 a6, .slice K6 kd6.length c6] 27 (0, 0)))
          have TW6 := Lib.hid (TW5.out.call ((Below.refl _ w5).alloc (Nat.le_refl _) (.cells #[.string g6, .string k6, .string z6, .slice A6 n6 a6, .slice K6 kd6.length c6] 27 (0, 0))))
          have B6 := Lib.hid (B5.out.alloc B5.out.size (.cells #[.string g6, .string k6, .string z6, .slice A6 n6 a6, .slice K6 kd6.length c6] 27 (0, 0)))
          generalize w5.alloc _ = w6 at *
          refine HK.out _ _ ⟨K6p.out, ?_⟩
          clear HK
          try change OrdN _ _ _ _ _ _ (Act.put _ (some 30) _) _
          try simp only [Act.put, List.setIfInBounds_toArray, List.set_cons_zero, List.set_cons_succ]
          refine ordn_l ?_
          refine wpOp_step rfl (fun K' hK => ?_)
          have HK := Lib.hid hK
          clear hK
          rw [if_pos (by rfl)]
          refine wp_app elT w6 _ _ rfl B (.slice VA vs.length vc) vs.length vs.flatten rfl LP6.out.row.own LP6.out.lo.2.1 ⟨w5.heap.size, 0, none⟩ 1 1 [.string g6, .string k6, .string z6, .slice A6 n6 a6, .slice K6 kd6.length c6] rfl rfl (World.news_of_block NB6.out) (by intro u hu; simp at hu; rcases hu with rfl | rfl | rfl | rfl | rfl <;> rfl) (by omega) (by omega) ?_
          intro v7 w7 h7 hg7 hv7
          have LP7 := Lib.hid (LP6.out.push (x := [.string g6, .string k6, .string z6, .slice A6 n6 a6, .slice K6 kd6.length c6]) ⟨rfl, by intro u hu; simp at hu; rcases hu with rfl | rfl | rfl | rfl | rfl <;> rfl⟩ wr.heap.size HLB.out HLV.out TW6.out h7 hg7 hv7)
          have K7p := Lib.hid (K6p.out.trans ((Kp.refl (fun k => (Value.slice VA vs.length vc).ownBlock = some k) w6).grown hg7 (fun k _ e => e)) (fun k _ e => e))
          have BW7 := Lib.hid (BW.out.trans ((B6.out.mono BW.out.size).trans ((Below.refl w.heap.size w6).grown hg7 (Nat.le_trans BW.out.size B6.out.size) (fun k hk => by have := (LP6.out.row.own.lt k hk).1; have := LP6.out.lo.1; omega))))
          obtain ⟨A7, a7, rfl, _⟩ := owns_sh h7
          clear h7 hg7 hv7
          refine HK.out _ _ ⟨K7p.out, ?_⟩
          clear HK
          try change OrdN _ _ _ _ _ _ (Act.put _ (some 31) _) _
          try simp only [Act.put, List.setIfInBounds_toArray, List.set_cons_zero, List.set_cons_succ]
          refine ordn_q (d := some 32) (v := ?_) rfl rfl (Or.inl ⟨by rfl, ?_⟩) ?_
          rotate_left
          · intro wz hSw
            obtain ⟨x4, f4⟩ := SH.out wz hSw
            go_simp
            (try with_reducible rfl)
          try simp only [Act.put, List.setIfInBounds_toArray, List.set_cons_zero, List.set_cons_succ]
          refine ordn_last ?_
          refine wpOp_step rfl (fun K' hK => ?_)
          have HK := Lib.hid hK
          clear hK
          rw [if_pos (by rfl)]
          obtain ⟨x4, f4⟩ := SH.out _ K7p.out
          go_simp
          refine HK.out _ _ ?_
          clear HK
          try simp only [Act.put, List.setIfInBounds_toArray, List.set_cons_zero, List.set_cons_succ]
          clear SH x4 f4
          have BW8 := Lib.hid (show Below w.heap.size w (w7.setCell ⟨w.heap.size + 1, 4, none⟩ (.slice A7 (vs.length + 1) a7)) from BW7.out.trans (((Kp.refl (fun k => k = w.heap.size + 1) w7).setCell (p := ⟨w.heap.size + 1, 4, none⟩) (fun _ => rfl) _).below BW7.out.size (fun k hk e => by omega)))
          clear BW7
          generalize w7.setCell _ _ = w8 at *
          go_wp2_with fail
          go_roundw
          case rel => exact ⟨j + 1, _, _, by omega, by go_num, by rw [KE.out, List.map_append]; exact LP7.out, BW8.out⟩
          case measure => simp [intOf]; omega
        · have q1 : (unF l j == (a : Int)) = false := beqF he
          have KE : Hid (kK (unF l) (j + 1) a = kK (unF l) j a) := by rw [Hid, KN.out, if_neg (fun h => he h.2)]
          clear he KN
          generalize unF l j = u at *
          go_wp2_with fail
          go_roundw
          case rel => exact ⟨j + 1, _, _, by omega, by go_num, by rw [KE.out]; exact LP.out, BW.out⟩
          case measure => simp [intOf]; omega
      · obtain rfl : j = nd.length := by omega
        obtain ⟨VA, vc, rfl, _⟩ := owns_sh LP.out.row.own
        have x0 := blk_cell LP.out.tb 0
        have x1 := blk_cell LP.out.tb 1
        have x2 := blk_cell LP.out.tb 2
        have x3 := blk_cell LP.out.tb 3
        have x4 := blk_cell LP.out.tb 4
        have y0 := blk_cell LP.out.rb 0
        have y1 := blk_cell LP.out.rb 1
        have y2 := blk_cell LP.out.rb 2
        have y3 := blk_cell LP.out.rb 3
        have y4 := blk_cell LP.out.rb 4
        have f0 := blk_frozen LP.out.rb 0
        have f1 := blk_frozen LP.out.rb 1
        have f2 := blk_frozen LP.out.rb 2
        have f3 := blk_frozen LP.out.rb 3
        have f4 := blk_frozen LP.out.rb 4
        simp at x0 x1 x2 x3 x4 y0 y1 y2 y3 y4
        go_wp2_with fail
        obtain ⟨hT9, hk9⟩ := set5 wr w.heap.size 27 (.string tg) (.string ky) (.string tx) (.slice A2 at_.length a2) (.slice VA vs.length vc) LP.out.rb rfl
        have hap := LP.out.ap
        have hlo := LP.out.lo
        have htr := LP.out.row.tree (p := fun k => (q k ∨ w.heap.size ≤ k) ∧ k ≠ w.heap.size + 1 ∧ k ≠ w.heap.size) (fun k hk => ⟨Or.inr (by omega), by omega, by omega⟩) (tag := tg) (key := ky) (text := tx) ⟨by omega, by have := kK_len (unF l) nd.length a; rw [List.length_map]; omega⟩ LP.out.at_ (fun a n c e _ => ⟨(hap a n c e).1, (hap a n c e).2.2⟩)
        have htr2 := (htr.frame (fun k hp hl => hk9.block k hl hp.2.2)).mono (q := fun k => q k ∨ w.heap.size ≤ k) (fun k hp _ => hp.1)
        rw [← GE.out] at htr2
        exact tree_end (T := w.heap.size) rfl rfl hT9 ⟨_, rfl, htr2, BW.out.trans (hk9.below BW.out.size (fun k hk e => by omega))⟩
end Go.Proofs.Ytolklphenllhpaa
