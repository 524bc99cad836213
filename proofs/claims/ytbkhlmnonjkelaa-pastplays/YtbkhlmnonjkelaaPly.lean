/-
  The walk of PastPlays.
-/
import Derived.Test.YtbkhlmnonjkelaaPlyA
import Derived.Deep.CutBlock
namespace Go.Proofs.Ytbkhlmnonjkelaa
open Go.RowKit Go.PlainAid
set_option maxRecDepth 100000

set_option maxHeartbeats 128000000 in
theorem plays4 (s : ByteArray) (v : Value) (pf : Nat × (Nat → Ak)) (w : World) (hv : Aks w v pf.1 pf.2) :
    Calls Try.prog 4 #[.string s, v] w fun e w' => e = .returned (.bool true) ∧ Below w.heap.size w w' := by
  obtain ⟨n, f⟩ := pf
  simp only at hv
  have AK := Lib.hid hv
  obtain ⟨A, cA, rfl, hcA, _⟩ := hv
  go_enter Try.func4, Try.ntmps4
  go_wp2_with fail
  refine (new8 s w).mono ?_
  rintro e w1 ⟨b1, rfl, hb1, p1, B1⟩
  have S1 := Lib.hid (sta_new s hb1 p1 B1)
  clear hb1 p1 B1
  go_upto_region 6 with fail
  generalize w1.alloc (.cells #[.string s, .int .u64 0] 28 (0, 0)) = w2 at *
  generalize w1.heap.size = T1 at *
  go_wp2_with fail
  go_loopw [5, 6, 7, 8] (fun p5 p6 p7 i wr => ∃ (k b T c : Nat) (g : Nat → En) (last a : Nat), k ≤ 40 ∧ i = .int .i64 k ∧ p5 = .pointer (some ⟨b, 0, none⟩) ∧ p6 = .slice (some ⟨T, 0, none⟩) (last + 1) c ∧ p7 = .int .i64 a ∧ Hid (Sta w b T c g last a wr)) (fun _ _ _ i _ => 40 - (intOf i).toNat)
  case atStart => exact ⟨0, b1, T1, 1, newE s, 0, 0, by omega, rfl, rfl, rfl, rfl, S1⟩
  case round =>
    obtain ⟨k, b, T, c, g, last, a, hk, rfl, rfl, rfl, rfl, SS⟩ := hrel
    clear S1
    by_cases hlt : k < n ∧ k < 40
    · obtain ⟨hkn, hk40⟩ := hlt
      have d0 : (k : Int) < (n : Int) := by omega
      have d1 : (k : Int) < 40 := by omega
      obtain ⟨D, o, rfl, hq⟩ := (AK.out.call SS.out.below).at_ k hkn
      obtain ⟨q0, q1, q2, q3, hN, hX⟩ := hq
      generalize f k = q at *
      obtain ⟨qk, qn, qx, qs⟩ := q
      simp only at q0 q1 q2 q3 hN hX
      have QB := Lib.hid (blk_new wr (.cells #[.int .i64 qk, .int .i64 qn, .int .u64 qx, .string qs] 38 (0, 0)))
      have S2 := Lib.hid (SS.out.alloc (.cells #[.int .i64 qk, .int .i64 qn, .int .u64 qx, .string qs] 38 (0, 0)))
      have QT := Lib.hid (SS.out.old)
      clear SS
      go_upto_region 10 with fail
      clear q0 q1 q2 q3
      generalize wr.alloc (.cells #[.int .i64 qk, .int .i64 qn, .int .u64 qx, .string qs] 38 (0, 0)) = w3 at *
      generalize wr.heap.size = TQ at *
      have c0 := blk_cell QB.out 0
      have c1 := blk_cell QB.out 1
      have c2 := blk_cell QB.out 2
      have c3 := blk_cell QB.out 3
      simp at c0 c1 c2 c3
      go_cut [10] (fun s10 wz => ∃ s9, s10 = .string s9 ∧ wz = w3)
      case first =>
        have i0 : (0 : Int) ≤ (qs.size : Int) := by omega
        by_cases h9 : (9 : Int) < (qs.size : Int)
        · go_wp2_with fail
          go_meet
          exact ⟨_, rfl, rfl⟩
        · go_wp2_with fail
          go_meet
          exact ⟨_, rfl, rfl⟩
      case rest =>
        obtain ⟨s9, rfl, hwc⟩ := hcut
        subst hwc
        generalize wc = W0 at *
        have t1 : ∀ m : Int, qk ≠ m → (qk == m) = false := fun m h => by simpa using h
        have T1E := Lib.hid t1
        clear t1
        go_upto_block 2 with fail
        go_cut [5, 6, 7] (fun p5 p6 p7 wz => ∃ (b T c : Nat) (g : Nat → En) (last a : Nat), p5 = .pointer (some ⟨b, 0, none⟩) ∧ p6 = .slice (some ⟨T, 0, none⟩) (last + 1) c ∧ p7 = .int .i64 a ∧ Hid (Sta w b T c g last a wz) ∧ Hid (wz.heap[TQ]? = some (.cells #[.int .i64 qk, .int .i64 qn, .int .u64 qx, .string qs] 38 (0, 0))))
        case first =>
          by_cases k1 : qk = 1
          · subst k1
            as_aux_lemma =>
              have ha11 : a ≤ 11 := by have := S2.out.hl; have := S2.out.ha; omega
              have i1 : IntKind.i64.wrap ((a : Int) + 1) = (a : Int) + 1 := IntWalk.i64_in _ (by omega)
              by_cases h11 : a = 11
              · have p2 : Pc W0 b g last 11 := h11 ▸ S2.out.p
                have d12 : (12 : Int) ≤ (a : Int) + 1 := by omega
                clear h11
                go_wp2_with fail
                refine (push9_full s9 W0 p2).mono ?_
                rintro e W1 ⟨rfl, rfl⟩
                go_wp2_with fail
                go_meet
                exact ⟨b, T, c, g, last, a, rfl, rfl, rfl, S2, QB⟩
              · have d12 : ¬ (12 : Int) ≤ (a : Int) + 1 := by omega
                have dA : (a : Int) + 1 ≤ (c : Int) := by have := S2.out.hc; have := S2.out.ha; omega
                have i2 : ((a : Int) + 1).toNat = a + 1 := by omega
                have i3 : (0 : Int) ≤ (a : Int) + 1 := by omega
                clear c0 c1 c2 c3
                go_upto_region 17 with (first
                  | (refine wpList_cln _ rfl _ _ rfl W0.heap.size W0 W0.heap.size rfl (empE W0.heap.size W0 W0 (Below.refl _ _) (Nat.le_refl _)) T (a + 1) (last + 1) c g rfl (S2.out.r.alloc _) (by have := S2.out.ha; omega) (by have := S2.out.ha; have := S2.out.hc; omega) (by omega) ?_; intro T3 c3 w4 O4 hT3 hc3)
                  | (refine wpList_appE _ rfl _ _ rfl W0.heap.size W0 (.slice (some ⟨T3, 0, none⟩) (a + 1) c3) (lis g (a + 1)) rfl (O4.alloc _) (by rw [lis_len]; omega) w4.heap.size 1 1 [(s9, 0)] rfl rfl (by omega) (blk_new w4 _) ?_; intro v5 w5 O5 hg5 hob5; clear hg5; obtain ⟨T5, c5, rfl, hT5, hc5⟩ := own_new O5 (n := a + 1 + 1) (by simp [lis_len]) hob5; clear hob5))
                have R5 := Lib.hid (show Rk w5 T5 (a + 1 + 1) (putE (cutE g (a + 1)) (a + 1) (s9, 0)) by
                  have hr := O5.rk
                  rw [show (lis g (a + 1) ++ [((s9, 0) : En)]).length = a + 1 + 1 by simp [lis_len]] at hr
                  exact hr.congr (fun i hi => push_lis g a (s9, 0) i hi))
                have B5 := Lib.hid O5.2.1
                have p5 := S2.out.p.call O5.2.1
                have Q5 := Lib.hid (blk_call QB.out O5.2.1)
                have hTb : T5 ≠ b := by have := S2.out.old.1; omega
                clear O5 O4
                go_wp2_with fail
                refine (push9_ok s9 w5 p5 (by omega)).mono ?_
                rintro e W6 ⟨rfl, h6⟩
                have R6 := Lib.hid (R5.out.of_block (h6.2.block T5 R5.out.lt hTb))
                have P6 := Lib.hid h6.1
                have Q6 := Lib.hid ((h6.2.block TQ (blk_lt Q5.out) (by have := QT.out; omega)).trans Q5.out)
                have N6 : Hid (Sta w b T5 c5 (putE (cutE g (a + 1)) (a + 1) (s9, 0)) (a + 1) (a + 1) W6) := by
                  have h1 := S2.out.below.size
                  have h4 := S2.out.hb
                  exact ⟨P6.out, R6.out, by omega, Nat.le_refl _, hc5, hTb, by omega, h4, (S2.out.below.trans (B5.out.mono h1)).trans (h6.2.below (by have := B5.out.size; omega) (fun i hi e => by omega)), ok_push S2.out.ha S2.out.ok oks_zero⟩
                clear h6 p5
                go_wp2_with fail
                go_meet
                exact ⟨b, T5, c5, _, a + 1, a + 1, rfl, rfl, rfl, N6, Q6⟩
          · have e1 := T1E.out 1 k1
            by_cases k2 : qk = 2
            · subst k2
              as_aux_lemma =>
                have ha11 : a ≤ 11 := by have := S2.out.hl; have := S2.out.ha; omega
                go_wp2_with fail
                refine (replace14 s9 W0 S2.out.p ha11).mono ?_
                rintro e W1 ⟨rfl, h1⟩
                have P1 := Lib.hid h1.1
                have K1 := Lib.hid h1.2
                have R1 := Lib.hid (S2.out.rk h1.2)
                have Q1 := Lib.hid ((h1.2.block TQ (blk_lt QB.out) (by have := QT.out; omega)).trans QB.out)
                clear h1 c0 c1 c2 c3
                have dA : (a : Int) < (last : Int) + 1 := by have := S2.out.ha; omega
                have dA2 : (a : Int) < ((last + 1 : Nat) : Int) := by have := S2.out.ha; omega
                go_upto_region 23 with (refine wpList_cln _ rfl _ _ rfl W1.heap.size W1 W1.heap.size rfl (empE W1.heap.size W1 W1 (Below.refl _ _) (Nat.le_refl _)) T (last + 1) (last + 1) c g rfl (R1.out.alloc _) (Nat.le_refl _) S2.out.hc (by have := S2.out.hl; omega) ?_; intro T3 c3 w4 O4 hT3 hc3; have R4 := Lib.hid O4.rkl; have B4 := Lib.hid O4.2.1; clear O4)
                have hal : a < last + 1 := by have := S2.out.ha; omega
                have r0 := R4.out.txt a hal
                have r1 := R4.out.scr a hal
                have f0 := R4.out.fro (a * 2)
                have f1 := R4.out.fro (a * 2 + 1)
                have R5 := Lib.hid (R4.out.setEnt a hal s9 0)
                have B5 := Lib.hid (below_put2 (below_put2 B4.out B4.out.size hT3 (a * 2) (.string s9)) (by simpa [World.setCell] using B4.out.size) hT3 (a * 2 + 1) (.int .u64 0))
                go_wp2_with fail
                go_meet
                exact ⟨b, T3, c3, _, last, a, rfl, rfl, rfl, Lib.hid (S2.out.next P1.out K1.out B5.out hT3 R5.out S2.out.hl S2.out.ha hc3 (ok_put S2.out.ok oks_zero)), Lib.hid (blk_call Q1.out B5.out)⟩
            · have e2 := T1E.out 2 k2
              by_cases k3 : qk = 3
              · subst k3
                as_aux_lemma =>
                  have hl11 : last ≤ 11 := S2.out.hl
                  have hal : a ≤ last := S2.out.ha
                  have j1 : IntKind.i64.wrap (last : Int) = last := IntWalk.i64_in _ (by omega)
                  have j2 : IntKind.i64.wrap ((last : Int) - a) = (last : Int) - a := IntWalk.i64_in _ (by omega)
                  have j3 : IntKind.i64.wrap (-(a : Int)) = -(a : Int) := IntWalk.i64_in _ (by omega)
                  have j4 : (last : Int) + 1 - 1 = last := by omega
                  by_cases h1 : -(a : Int) ≤ qn
                  · by_cases h2 : qn ≤ (last : Int) - a
                    · have hcan : canB last a qn = true := by simp [canB, h1, h2]
                      obtain ⟨at2, hat⟩ : ∃ at2 : Nat, (a : Int) + qn = at2 := ⟨((a : Int) + qn).toNat, by omega⟩
                      have HA := Lib.hid hat
                      have e2 : IntKind.i64.wrap ((a : Int) + qn) = (at2 : Int) := by rw [hat]; exact IntWalk.i64_in _ (by omega)
                      have l2 : at2 ≤ last := by omega
                      have d2 : (at2 : Int) < (last : Int) + 1 := by omega
                      have d3 : (at2 : Int) < ((last + 1 : Nat) : Int) := by omega
                      clear hat
                      go_wp2_with fail
                      refine (go10_yes qn at2 W0 S2.out.p hl11 hal hcan HA.out).mono ?_
                      rintro e W1 ⟨rfl, h3⟩
                      have R1 := S2.out.rk h3.2
                      have N1 : Sta w b T c g last at2 W1 := ⟨h3.1, R1, hl11, l2, S2.out.hc, S2.out.ne, S2.out.hT, S2.out.hb, S2.out.below.trans (h3.2.below S2.out.below.size (fun i hi e => by have := S2.out.hb; omega)), S2.out.ok⟩
                      have Q1 := (h3.2.block TQ (blk_lt QB.out) (by have := QT.out; omega)).trans QB.out
                      have S3 := Lib.hid (N1.alloc (.cells #[.string (g at2).1, .int .u64 (g at2).2] 28 (0, 0)))
                      have Q3 := Lib.hid (blk_alloc Q1 (.cells #[.string (g at2).1, .int .u64 (g at2).2] 28 (0, 0)))
                      have hx := blk_new W1 (.cells #[.string (g at2).1, .int .u64 (g at2).2] 28 (0, 0))
                      have c1' := blk_cell Q3.out 1
                      simp at c1'
                      clear h3 R1 N1 Q1 S2 QB c0 c1 c2 c3
                      go_wp2_with fail
                      generalize W1.alloc (.cells #[.string (g at2).1, .int .u64 (g at2).2] 28 (0, 0)) = w2 at *
                      generalize W1.heap.size = TX at *
                      have x0 := blk_cell hx 0
                      have x1 := blk_cell hx 1
                      simp at x0 x1
                      have q0 := S3.out.r.txt at2 (by omega)
                      have q1 := S3.out.r.scr at2 (by omega)
                      generalize hga : g at2 = ga at *
                      have SH : Hid (∀ W, Below w2.heap.size w2 W → W.cell? ⟨TX, 0, none⟩ = some (.string ga.1) ∧ W.cell? ⟨TX, 1, none⟩ = some (.int .u64 ga.2) ∧ W.cell? ⟨T, at2 * 2, none⟩ = some (.string ga.1) ∧ W.cell? ⟨T, at2 * 2 + 1, none⟩ = some (.int .u64 ga.2)) := by
                        intro W hW
                        have k : ∀ (p : Addr) (v : Value), w2.cell? p = some v → W.cell? p = some v := fun p v hc => by rw [hW.cell (World.block_lt_of_cell? _ _ hc)]; exact hc
                        exact ⟨k _ _ x0, k _ _ x1, k _ _ q0, k _ _ q1⟩
                      clear x0 x1 q0 q1 hx hga c1'
                      refine wp_region_ord ((true, 0) :: (true, 1) :: (true, 2) :: (true, 3) :: (true, 4) :: (true, 5) :: (true, 6) :: (true, 7) :: (true, 8) :: (true, 9) :: (true, 10) :: (true, 11) :: (true, 12) :: (true, 13) :: (true, 14) :: (true, 15) :: (true, 16) :: (true, 17) :: (true, 18) :: (true, 19) :: (true, 20) :: (true, 21) :: (true, 22) :: (true, 23) :: (true, 24) :: (true, 25) :: (true, 26) :: (true, 27) :: []) (fun W => Below w2.heap.size w2 W) (by kernel_rfl) (by kernel_rfl) (by decide) (by kernel_rfl) (fun d _ _ _ _ h => by cases d <;> exact h) ((Below.refl _ w2).drew) ?_
                      refine ord_q (d := some 110) (v := ?_) rfl rfl (Or.inl ⟨by rfl, ?_⟩) ?_
                      rotate_left
                      · intro wz hSw
                        obtain ⟨x0, x1, q0, q1⟩ := SH.out wz hSw
                        go_simp
                        (try with_reducible rfl)
                      try simp only [Act.put, List.setIfInBounds_toArray, List.set_cons_zero, List.set_cons_succ]
                      refine ord_q (d := some 111) (v := ?_) rfl rfl (Or.inl ⟨by rfl, ?_⟩) ?_
                      rotate_left
                      · intro wz hSw
                        obtain ⟨x0, x1, q0, q1⟩ := SH.out wz hSw
                        go_simp
                        (try with_reducible rfl)
                      try simp only [Act.put, List.setIfInBounds_toArray, List.set_cons_zero, List.set_cons_succ]
                      refine ord_q (d := some 112) (v := ?_) rfl rfl (Or.inl ⟨by rfl, ?_⟩) ?_
                      rotate_left
                      · intro wz hSw
                        obtain ⟨x0, x1, q0, q1⟩ := SH.out wz hSw
                        go_simp
                        (try with_reducible rfl)
                      try simp only [Act.put, List.setIfInBounds_toArray, List.set_cons_zero, List.set_cons_succ]
                      refine ord_q (d := some 113) (v := ?_) rfl rfl (Or.inl ⟨by rfl, ?_⟩) ?_
                      rotate_left
                      · intro wz hSw
                        obtain ⟨x0, x1, q0, q1⟩ := SH.out wz hSw
                        go_simp
                        (try with_reducible rfl)
                      try simp only [Act.put, List.setIfInBounds_toArray, List.set_cons_zero, List.set_cons_succ]
                      refine ord_q (d := some 114) (v := ?_) rfl rfl (Or.inl ⟨by rfl, ?_⟩) ?_
                      rotate_left
                      · intro wz hSw
                        obtain ⟨x0, x1, q0, q1⟩ := SH.out wz hSw
                        go_simp
                        (try with_reducible rfl)
                      try simp only [Act.put, List.setIfInBounds_toArray, List.set_cons_zero, List.set_cons_succ]
                      refine ord_q (d := some 115) (v := ?_) rfl rfl (Or.inl ⟨by rfl, ?_⟩) ?_
                      rotate_left
                      · intro wz hSw
                        obtain ⟨x0, x1, q0, q1⟩ := SH.out wz hSw
                        go_simp
                        (try with_reducible rfl)
                      try simp only [Act.put, List.setIfInBounds_toArray, List.set_cons_zero, List.set_cons_succ]
                      refine ord_q (d := some 116) (v := ?_) rfl rfl (Or.inl ⟨by rfl, ?_⟩) ?_
                      rotate_left
                      · intro wz hSw
                        obtain ⟨x0, x1, q0, q1⟩ := SH.out wz hSw
                        go_simp
                        (try with_reducible rfl)
                      try simp only [Act.put, List.setIfInBounds_toArray, List.set_cons_zero, List.set_cons_succ]
                      refine ord_q (d := some 117) (v := ?_) rfl rfl (Or.inl ⟨by rfl, ?_⟩) ?_
                      rotate_left
                      · intro wz hSw
                        obtain ⟨x0, x1, q0, q1⟩ := SH.out wz hSw
                        go_simp
                        (try with_reducible rfl)
                      try simp only [Act.put, List.setIfInBounds_toArray, List.set_cons_zero, List.set_cons_succ]
                      refine ord_q (d := some 118) (v := ?_) rfl rfl (Or.inl ⟨by rfl, ?_⟩) ?_
                      rotate_left
                      · intro wz hSw
                        obtain ⟨x0, x1, q0, q1⟩ := SH.out wz hSw
                        go_simp
                        (try with_reducible rfl)
                      try simp only [Act.put, List.setIfInBounds_toArray, List.set_cons_zero, List.set_cons_succ]
                      refine ord_q (d := some 119) (v := ?_) rfl rfl (Or.inl ⟨by rfl, ?_⟩) ?_
                      rotate_left
                      · intro wz hSw
                        obtain ⟨x0, x1, q0, q1⟩ := SH.out wz hSw
                        go_simp
                        (try with_reducible rfl)
                      try simp only [Act.put, List.setIfInBounds_toArray, List.set_cons_zero, List.set_cons_succ]
                      refine ord_q (d := some 120) (v := ?_) rfl rfl (Or.inl ⟨by rfl, ?_⟩) ?_
                      rotate_left
                      · intro wz hSw
                        obtain ⟨x0, x1, q0, q1⟩ := SH.out wz hSw
                        go_simp
                        (try with_reducible rfl)
                      try simp only [Act.put, List.setIfInBounds_toArray, List.set_cons_zero, List.set_cons_succ]
                      refine ord_q (d := some 121) (v := ?_) rfl rfl (Or.inl ⟨by rfl, ?_⟩) ?_
                      rotate_left
                      · intro wz hSw
                        obtain ⟨x0, x1, q0, q1⟩ := SH.out wz hSw
                        go_simp
                        (try with_reducible rfl)
                      try simp only [Act.put, List.setIfInBounds_toArray, List.set_cons_zero, List.set_cons_succ]
                      refine ord_q (d := some 122) (v := ?_) rfl rfl (Or.inl ⟨by rfl, ?_⟩) ?_
                      rotate_left
                      · intro wz hSw
                        obtain ⟨x0, x1, q0, q1⟩ := SH.out wz hSw
                        go_simp
                        (try with_reducible rfl)
                      try simp only [Act.put, List.setIfInBounds_toArray, List.set_cons_zero, List.set_cons_succ]
                      refine ord_q (d := some 123) (v := ?_) rfl rfl (Or.inl ⟨by rfl, ?_⟩) ?_
                      rotate_left
                      · intro wz hSw
                        obtain ⟨x0, x1, q0, q1⟩ := SH.out wz hSw
                        go_simp
                        (try with_reducible rfl)
                      try simp only [Act.put, List.setIfInBounds_toArray, List.set_cons_zero, List.set_cons_succ]
                      refine ord_q (d := some 124) (v := ?_) rfl rfl (Or.inl ⟨by rfl, ?_⟩) ?_
                      rotate_left
                      · intro wz hSw
                        obtain ⟨x0, x1, q0, q1⟩ := SH.out wz hSw
                        go_simp
                        (try with_reducible rfl)
                      try simp only [Act.put, List.setIfInBounds_toArray, List.set_cons_zero, List.set_cons_succ]
                      refine ord_q (d := some 125) (v := ?_) rfl rfl (Or.inl ⟨by rfl, ?_⟩) ?_
                      rotate_left
                      · intro wz hSw
                        obtain ⟨x0, x1, q0, q1⟩ := SH.out wz hSw
                        go_simp
                        (try with_reducible rfl)
                      try simp only [Act.put, List.setIfInBounds_toArray, List.set_cons_zero, List.set_cons_succ]
                      refine ord_q (d := some 126) (v := ?_) rfl rfl (Or.inl ⟨by rfl, ?_⟩) ?_
                      rotate_left
                      · intro wz hSw
                        obtain ⟨x0, x1, q0, q1⟩ := SH.out wz hSw
                        go_simp
                        (try with_reducible rfl)
                      try simp only [Act.put, List.setIfInBounds_toArray, List.set_cons_zero, List.set_cons_succ]
                      refine ord_q (d := some 127) (v := ?_) rfl rfl (Or.inl ⟨by rfl, ?_⟩) ?_
                      rotate_left
                      · intro wz hSw
                        obtain ⟨x0, x1, q0, q1⟩ := SH.out wz hSw
                        go_simp
                        (try with_reducible rfl)
                      try simp only [Act.put, List.setIfInBounds_toArray, List.set_cons_zero, List.set_cons_succ]
                      refine ord_q (d := some 128) (v := ?_) rfl rfl (Or.inl ⟨by rfl, ?_⟩) ?_
                      rotate_left
                      · intro wz hSw
                        obtain ⟨x0, x1, q0, q1⟩ := SH.out wz hSw
                        go_simp
                        (try with_reducible rfl)
                      try simp only [Act.put, List.setIfInBounds_toArray, List.set_cons_zero, List.set_cons_succ]
                      refine ord_q (d := some 129) (v := undef) rfl rfl (Or.inr ⟨by kernel_rfl, rfl⟩) ?_
                      try simp only [Act.put, List.setIfInBounds_toArray, List.set_cons_zero, List.set_cons_succ]
                      refine ord_q (d := some 130) (v := undef) rfl rfl (Or.inr ⟨by kernel_rfl, rfl⟩) ?_
                      try simp only [Act.put, List.setIfInBounds_toArray, List.set_cons_zero, List.set_cons_succ]
                      refine ord_q (d := some 131) (v := undef) rfl rfl (Or.inr ⟨by kernel_rfl, rfl⟩) ?_
                      try simp only [Act.put, List.setIfInBounds_toArray, List.set_cons_zero, List.set_cons_succ]
                      refine ord_q (d := some 132) (v := undef) rfl rfl (Or.inr ⟨by kernel_rfl, rfl⟩) ?_
                      try simp only [Act.put, List.setIfInBounds_toArray, List.set_cons_zero, List.set_cons_succ]
                      refine ord_q (d := some 133) (v := undef) rfl rfl (Or.inr ⟨by kernel_rfl, rfl⟩) ?_
                      try simp only [Act.put, List.setIfInBounds_toArray, List.set_cons_zero, List.set_cons_succ]
                      refine ord_q (d := some 134) (v := undef) rfl rfl (Or.inr ⟨by kernel_rfl, rfl⟩) ?_
                      try simp only [Act.put, List.setIfInBounds_toArray, List.set_cons_zero, List.set_cons_succ]
                      refine ord_q (d := some 135) (v := undef) rfl rfl (Or.inr ⟨by kernel_rfl, rfl⟩) ?_
                      try simp only [Act.put, List.setIfInBounds_toArray, List.set_cons_zero, List.set_cons_succ]
                      refine ord_q (d := some 136) (v := ?_) rfl rfl (Or.inl ⟨by rfl, ?_⟩) ?_
                      rotate_left
                      · intro wz hSw
                        obtain ⟨x0, x1, q0, q1⟩ := SH.out wz hSw
                        go_simp
                        (try with_reducible rfl)
                      try simp only [Act.put, List.setIfInBounds_toArray, List.set_cons_zero, List.set_cons_succ]
                      refine ord_q (d := some 137) (v := ?_) rfl rfl (Or.inl ⟨by rfl, ?_⟩) ?_
                      rotate_left
                      · intro wz hSw
                        obtain ⟨x0, x1, q0, q1⟩ := SH.out wz hSw
                        go_simp
                        (try with_reducible rfl)
                      try simp only [Act.put, List.setIfInBounds_toArray, List.set_cons_zero, List.set_cons_succ]
                      refine ord_nil ?_
                      go_wp2_with fail
                      go_meet
                      exact ⟨b, T, c, g, last, at2, rfl, rfl, rfl, Lib.hid S3.out.drew, Lib.hid Q3.out⟩
                    · have hcan : canB last a qn = false := by simp [canB, h2]
                      have h2' : decide (qn ≤ (last : Int) - a) = false := by simpa using h2
                      go_wp2_with fail
                      refine (go10_no qn W0 S2.out.p S2.out.hl S2.out.ha hcan).mono ?_
                      rintro e W1 ⟨rfl, hb1⟩
                      have S3 := Lib.hid ((S2.out.call hb1).alloc (.cells #[.string ⟨#[]⟩, .int .u64 0] 28 (0, 0)))
                      have Q3 := Lib.hid (blk_alloc (blk_call QB.out hb1) (.cells #[.string ⟨#[]⟩, .int .u64 0] 28 (0, 0)))
                      have hx := blk_new W1 (.cells #[.string ⟨#[]⟩, .int .u64 0] 28 (0, 0))
                      clear hb1 S2 QB c0 c1 c2 c3
                      go_wp2_with fail
                      generalize W1.alloc (.cells #[.string ⟨#[]⟩, .int .u64 0] 28 (0, 0)) = w2 at *
                      generalize W1.heap.size = TX at *
                      have x0 := blk_cell hx 0
                      have x1 := blk_cell hx 1
                      simp at x0 x1
                      have SH : Hid (∀ W, Below w2.heap.size w2 W → W.cell? ⟨TX, 0, none⟩ = some (.string ⟨#[]⟩) ∧ W.cell? ⟨TX, 1, none⟩ = some (.int .u64 0)) := by
                        intro W hW
                        have k : ∀ (p : Addr) (v : Value), w2.cell? p = some v → W.cell? p = some v := fun p v hc => by rw [hW.cell (World.block_lt_of_cell? _ _ hc)]; exact hc
                        exact ⟨k _ _ x0, k _ _ x1⟩
                      clear x0 x1 hx
                      refine wp_region_ord ((true, 0) :: (true, 1) :: (true, 2) :: (true, 3) :: (true, 4) :: (true, 5) :: (true, 6) :: (true, 7) :: (true, 8) :: (true, 9) :: (true, 10) :: (true, 11) :: (true, 12) :: (true, 13) :: (true, 14) :: (true, 15) :: (true, 16) :: (true, 17) :: (true, 18) :: (true, 19) :: (true, 20) :: (true, 21) :: (true, 22) :: (true, 23) :: (true, 24) :: (true, 25) :: (true, 26) :: (true, 27) :: []) (fun W => Below w2.heap.size w2 W) (by kernel_rfl) (by kernel_rfl) (by decide) (by kernel_rfl) (fun d _ _ _ _ h => by cases d <;> exact h) ((Below.refl _ w2).drew) ?_
                      refine ord_q (d := some 110) (v := ?_) rfl rfl (Or.inl ⟨by rfl, ?_⟩) ?_
                      rotate_left
                      · intro wz hSw
                        obtain ⟨x0, x1⟩ := SH.out wz hSw
                        go_simp
                        (try with_reducible rfl)
                      try simp only [Act.put, List.setIfInBounds_toArray, List.set_cons_zero, List.set_cons_succ]
                      refine ord_q (d := some 111) (v := ?_) rfl rfl (Or.inl ⟨by rfl, ?_⟩) ?_
                      rotate_left
                      · intro wz hSw
                        obtain ⟨x0, x1⟩ := SH.out wz hSw
                        go_simp
                        (try with_reducible rfl)
                      try simp only [Act.put, List.setIfInBounds_toArray, List.set_cons_zero, List.set_cons_succ]
                      refine ord_q (d := some 112) (v := ?_) rfl rfl (Or.inl ⟨by rfl, ?_⟩) ?_
                      rotate_left
                      · intro wz hSw
                        obtain ⟨x0, x1⟩ := SH.out wz hSw
                        go_simp
                        (try with_reducible rfl)
                      try simp only [Act.put, List.setIfInBounds_toArray, List.set_cons_zero, List.set_cons_succ]
                      refine ord_q (d := some 113) (v := ?_) rfl rfl (Or.inl ⟨by rfl, ?_⟩) ?_
                      rotate_left
                      · intro wz hSw
                        obtain ⟨x0, x1⟩ := SH.out wz hSw
                        go_simp
                        (try with_reducible rfl)
                      try simp only [Act.put, List.setIfInBounds_toArray, List.set_cons_zero, List.set_cons_succ]
                      refine ord_q (d := some 114) (v := ?_) rfl rfl (Or.inl ⟨by rfl, ?_⟩) ?_
                      rotate_left
                      · intro wz hSw
                        obtain ⟨x0, x1⟩ := SH.out wz hSw
                        go_simp
                        (try with_reducible rfl)
                      try simp only [Act.put, List.setIfInBounds_toArray, List.set_cons_zero, List.set_cons_succ]
                      refine ord_q (d := some 115) (v := ?_) rfl rfl (Or.inl ⟨by rfl, ?_⟩) ?_
                      rotate_left
                      · intro wz hSw
                        obtain ⟨x0, x1⟩ := SH.out wz hSw
                        go_simp
                        (try with_reducible rfl)
                      try simp only [Act.put, List.setIfInBounds_toArray, List.set_cons_zero, List.set_cons_succ]
                      refine ord_q (d := some 116) (v := ?_) rfl rfl (Or.inl ⟨by rfl, ?_⟩) ?_
                      rotate_left
                      · intro wz hSw
                        obtain ⟨x0, x1⟩ := SH.out wz hSw
                        go_simp
                        (try with_reducible rfl)
                      try simp only [Act.put, List.setIfInBounds_toArray, List.set_cons_zero, List.set_cons_succ]
                      refine ord_q (d := some 117) (v := undef) rfl rfl (Or.inr ⟨by kernel_rfl, rfl⟩) ?_
                      try simp only [Act.put, List.setIfInBounds_toArray, List.set_cons_zero, List.set_cons_succ]
                      refine ord_q (d := some 118) (v := undef) rfl rfl (Or.inr ⟨by kernel_rfl, rfl⟩) ?_
                      try simp only [Act.put, List.setIfInBounds_toArray, List.set_cons_zero, List.set_cons_succ]
                      refine ord_q (d := some 119) (v := undef) rfl rfl (Or.inr ⟨by kernel_rfl, rfl⟩) ?_
                      try simp only [Act.put, List.setIfInBounds_toArray, List.set_cons_zero, List.set_cons_succ]
                      refine ord_q (d := some 120) (v := undef) rfl rfl (Or.inr ⟨by kernel_rfl, rfl⟩) ?_
                      try simp only [Act.put, List.setIfInBounds_toArray, List.set_cons_zero, List.set_cons_succ]
                      refine ord_q (d := some 121) (v := undef) rfl rfl (Or.inr ⟨by kernel_rfl, rfl⟩) ?_
                      try simp only [Act.put, List.setIfInBounds_toArray, List.set_cons_zero, List.set_cons_succ]
                      refine ord_q (d := some 122) (v := undef) rfl rfl (Or.inr ⟨by kernel_rfl, rfl⟩) ?_
                      try simp only [Act.put, List.setIfInBounds_toArray, List.set_cons_zero, List.set_cons_succ]
                      refine ord_q (d := some 123) (v := ?_) rfl rfl (Or.inl ⟨by rfl, ?_⟩) ?_
                      rotate_left
                      · intro wz hSw
                        obtain ⟨x0, x1⟩ := SH.out wz hSw
                        go_simp
                        (try with_reducible rfl)
                      try simp only [Act.put, List.setIfInBounds_toArray, List.set_cons_zero, List.set_cons_succ]
                      refine ord_q (d := some 124) (v := ?_) rfl rfl (Or.inl ⟨by rfl, ?_⟩) ?_
                      rotate_left
                      · intro wz hSw
                        obtain ⟨x0, x1⟩ := SH.out wz hSw
                        go_simp
                        (try with_reducible rfl)
                      try simp only [Act.put, List.setIfInBounds_toArray, List.set_cons_zero, List.set_cons_succ]
                      refine ord_q (d := some 125) (v := ?_) rfl rfl (Or.inl ⟨by rfl, ?_⟩) ?_
                      rotate_left
                      · intro wz hSw
                        obtain ⟨x0, x1⟩ := SH.out wz hSw
                        go_simp
                        (try with_reducible rfl)
                      try simp only [Act.put, List.setIfInBounds_toArray, List.set_cons_zero, List.set_cons_succ]
                      refine ord_q (d := some 126) (v := ?_) rfl rfl (Or.inl ⟨by rfl, ?_⟩) ?_
                      rotate_left
                      · intro wz hSw
                        obtain ⟨x0, x1⟩ := SH.out wz hSw
                        go_simp
                        (try with_reducible rfl)
                      try simp only [Act.put, List.setIfInBounds_toArray, List.set_cons_zero, List.set_cons_succ]
                      refine ord_q (d := some 127) (v := ?_) rfl rfl (Or.inl ⟨by rfl, ?_⟩) ?_
                      rotate_left
                      · intro wz hSw
                        obtain ⟨x0, x1⟩ := SH.out wz hSw
                        go_simp
                        (try with_reducible rfl)
                      try simp only [Act.put, List.setIfInBounds_toArray, List.set_cons_zero, List.set_cons_succ]
                      refine ord_q (d := some 128) (v := ?_) rfl rfl (Or.inl ⟨by rfl, ?_⟩) ?_
                      rotate_left
                      · intro wz hSw
                        obtain ⟨x0, x1⟩ := SH.out wz hSw
                        go_simp
                        (try with_reducible rfl)
                      try simp only [Act.put, List.setIfInBounds_toArray, List.set_cons_zero, List.set_cons_succ]
                      refine ord_q (d := some 129) (v := ?_) rfl rfl (Or.inl ⟨by rfl, ?_⟩) ?_
                      rotate_left
                      · intro wz hSw
                        obtain ⟨x0, x1⟩ := SH.out wz hSw
                        go_simp
                        (try with_reducible rfl)
                      try simp only [Act.put, List.setIfInBounds_toArray, List.set_cons_zero, List.set_cons_succ]
                      refine ord_q (d := some 130) (v := ?_) rfl rfl (Or.inl ⟨by rfl, ?_⟩) ?_
                      rotate_left
                      · intro wz hSw
                        obtain ⟨x0, x1⟩ := SH.out wz hSw
                        go_simp
                        (try with_reducible rfl)
                      try simp only [Act.put, List.setIfInBounds_toArray, List.set_cons_zero, List.set_cons_succ]
                      refine ord_q (d := some 131) (v := ?_) rfl rfl (Or.inl ⟨by rfl, ?_⟩) ?_
                      rotate_left
                      · intro wz hSw
                        obtain ⟨x0, x1⟩ := SH.out wz hSw
                        go_simp
                        (try with_reducible rfl)
                      try simp only [Act.put, List.setIfInBounds_toArray, List.set_cons_zero, List.set_cons_succ]
                      refine ord_q (d := some 132) (v := ?_) rfl rfl (Or.inl ⟨by rfl, ?_⟩) ?_
                      rotate_left
                      · intro wz hSw
                        obtain ⟨x0, x1⟩ := SH.out wz hSw
                        go_simp
                        (try with_reducible rfl)
                      try simp only [Act.put, List.setIfInBounds_toArray, List.set_cons_zero, List.set_cons_succ]
                      refine ord_q (d := some 133) (v := ?_) rfl rfl (Or.inl ⟨by rfl, ?_⟩) ?_
                      rotate_left
                      · intro wz hSw
                        obtain ⟨x0, x1⟩ := SH.out wz hSw
                        go_simp
                        (try with_reducible rfl)
                      try simp only [Act.put, List.setIfInBounds_toArray, List.set_cons_zero, List.set_cons_succ]
                      refine ord_q (d := some 134) (v := ?_) rfl rfl (Or.inl ⟨by rfl, ?_⟩) ?_
                      rotate_left
                      · intro wz hSw
                        obtain ⟨x0, x1⟩ := SH.out wz hSw
                        go_simp
                        (try with_reducible rfl)
                      try simp only [Act.put, List.setIfInBounds_toArray, List.set_cons_zero, List.set_cons_succ]
                      refine ord_q (d := some 135) (v := ?_) rfl rfl (Or.inl ⟨by rfl, ?_⟩) ?_
                      rotate_left
                      · intro wz hSw
                        obtain ⟨x0, x1⟩ := SH.out wz hSw
                        go_simp
                        (try with_reducible rfl)
                      try simp only [Act.put, List.setIfInBounds_toArray, List.set_cons_zero, List.set_cons_succ]
                      refine ord_q (d := some 136) (v := ?_) rfl rfl (Or.inl ⟨by rfl, ?_⟩) ?_
                      rotate_left
                      · intro wz hSw
                        obtain ⟨x0, x1⟩ := SH.out wz hSw
                        go_simp
                        (try with_reducible rfl)
                      try simp only [Act.put, List.setIfInBounds_toArray, List.set_cons_zero, List.set_cons_succ]
                      refine ord_q (d := some 137) (v := ?_) rfl rfl (Or.inl ⟨by rfl, ?_⟩) ?_
                      rotate_left
                      · intro wz hSw
                        obtain ⟨x0, x1⟩ := SH.out wz hSw
                        go_simp
                        (try with_reducible rfl)
                      try simp only [Act.put, List.setIfInBounds_toArray, List.set_cons_zero, List.set_cons_succ]
                      refine ord_nil ?_
                      go_wp2_with fail
                      go_meet
                      exact ⟨b, T, c, g, last, a, rfl, rfl, rfl, Lib.hid S3.out.drew, Lib.hid Q3.out⟩
                  · have hcan : canB last a qn = false := by simp [canB, h1]
                    have h1' : decide (-(a : Int) ≤ qn) = false := by simpa using h1
                    go_wp2_with fail
                    refine (go10_no qn W0 S2.out.p S2.out.hl S2.out.ha hcan).mono ?_
                    rintro e W1 ⟨rfl, hb1⟩
                    have S3 := Lib.hid ((S2.out.call hb1).alloc (.cells #[.string ⟨#[]⟩, .int .u64 0] 28 (0, 0)))
                    have Q3 := Lib.hid (blk_alloc (blk_call QB.out hb1) (.cells #[.string ⟨#[]⟩, .int .u64 0] 28 (0, 0)))
                    have hx := blk_new W1 (.cells #[.string ⟨#[]⟩, .int .u64 0] 28 (0, 0))
                    clear hb1 S2 QB c0 c1 c2 c3
                    go_wp2_with fail
                    generalize W1.alloc (.cells #[.string ⟨#[]⟩, .int .u64 0] 28 (0, 0)) = w2 at *
                    generalize W1.heap.size = TX at *
                    have x0 := blk_cell hx 0
                    have x1 := blk_cell hx 1
                    simp at x0 x1
                    have SH : Hid (∀ W, Below w2.heap.size w2 W → W.cell? ⟨TX, 0, none⟩ = some (.string ⟨#[]⟩) ∧ W.cell? ⟨TX, 1, none⟩ = some (.int .u64 0)) := by
                      intro W hW
                      have k : ∀ (p : Addr) (v : Value), w2.cell? p = some v → W.cell? p = some v := fun p v hc => by rw [hW.cell (World.block_lt_of_cell? _ _ hc)]; exact hc
                      exact ⟨k _ _ x0, k _ _ x1⟩
                    clear x0 x1 hx
                    refine wp_region_ord ((true, 0) :: (true, 1) :: (true, 2) :: (true, 3) :: (true, 4) :: (true, 5) :: (true, 6) :: (true, 7) :: (true, 8) :: (true, 9) :: (true, 10) :: (true, 11) :: (true, 12) :: (true, 13) :: (true, 14) :: (true, 15) :: (true, 16) :: (true, 17) :: (true, 18) :: (true, 19) :: (true, 20) :: (true, 21) :: (true, 22) :: (true, 23) :: (true, 24) :: (true, 25) :: (true, 26) :: (true, 27) :: []) (fun W => Below w2.heap.size w2 W) (by kernel_rfl) (by kernel_rfl) (by decide) (by kernel_rfl) (fun d _ _ _ _ h => by cases d <;> exact h) ((Below.refl _ w2).drew) ?_
                    refine ord_q (d := some 110) (v := ?_) rfl rfl (Or.inl ⟨by rfl, ?_⟩) ?_
                    rotate_left
                    · intro wz hSw
                      obtain ⟨x0, x1⟩ := SH.out wz hSw
                      go_simp
                      (try with_reducible rfl)
                    try simp only [Act.put, List.setIfInBounds_toArray, List.set_cons_zero, List.set_cons_succ]
                    refine ord_q (d := some 111) (v := ?_) rfl rfl (Or.inl ⟨by rfl, ?_⟩) ?_
                    rotate_left
                    · intro wz hSw
                      obtain ⟨x0, x1⟩ := SH.out wz hSw
                      go_simp
                      (try with_reducible rfl)
                    try simp only [Act.put, List.setIfInBounds_toArray, List.set_cons_zero, List.set_cons_succ]
                    refine ord_q (d := some 112) (v := ?_) rfl rfl (Or.inl ⟨by rfl, ?_⟩) ?_
                    rotate_left
                    · intro wz hSw
                      obtain ⟨x0, x1⟩ := SH.out wz hSw
                      go_simp
                      (try with_reducible rfl)
                    try simp only [Act.put, List.setIfInBounds_toArray, List.set_cons_zero, List.set_cons_succ]
                    refine ord_q (d := some 113) (v := ?_) rfl rfl (Or.inl ⟨by rfl, ?_⟩) ?_
                    rotate_left
                    · intro wz hSw
                      obtain ⟨x0, x1⟩ := SH.out wz hSw
                      go_simp
                      (try with_reducible rfl)
                    try simp only [Act.put, List.setIfInBounds_toArray, List.set_cons_zero, List.set_cons_succ]
                    refine ord_q (d := some 114) (v := ?_) rfl rfl (Or.inl ⟨by rfl, ?_⟩) ?_
                    rotate_left
                    · intro wz hSw
                      obtain ⟨x0, x1⟩ := SH.out wz hSw
                      go_simp
                      (try with_reducible rfl)
                    try simp only [Act.put, List.setIfInBounds_toArray, List.set_cons_zero, List.set_cons_succ]
                    refine ord_q (d := some 115) (v := ?_) rfl rfl (Or.inl ⟨by rfl, ?_⟩) ?_
                    rotate_left
                    · intro wz hSw
                      obtain ⟨x0, x1⟩ := SH.out wz hSw
                      go_simp
                      (try with_reducible rfl)
                    try simp only [Act.put, List.setIfInBounds_toArray, List.set_cons_zero, List.set_cons_succ]
                    refine ord_q (d := some 116) (v := ?_) rfl rfl (Or.inl ⟨by rfl, ?_⟩) ?_
                    rotate_left
                    · intro wz hSw
                      obtain ⟨x0, x1⟩ := SH.out wz hSw
                      go_simp
                      (try with_reducible rfl)
                    try simp only [Act.put, List.setIfInBounds_toArray, List.set_cons_zero, List.set_cons_succ]
                    refine ord_q (d := some 117) (v := undef) rfl rfl (Or.inr ⟨by kernel_rfl, rfl⟩) ?_
                    try simp only [Act.put, List.setIfInBounds_toArray, List.set_cons_zero, List.set_cons_succ]
                    refine ord_q (d := some 118) (v := undef) rfl rfl (Or.inr ⟨by kernel_rfl, rfl⟩) ?_
                    try simp only [Act.put, List.setIfInBounds_toArray, List.set_cons_zero, List.set_cons_succ]
                    refine ord_q (d := some 119) (v := undef) rfl rfl (Or.inr ⟨by kernel_rfl, rfl⟩) ?_
                    try simp only [Act.put, List.setIfInBounds_toArray, List.set_cons_zero, List.set_cons_succ]
                    refine ord_q (d := some 120) (v := undef) rfl rfl (Or.inr ⟨by kernel_rfl, rfl⟩) ?_
                    try simp only [Act.put, List.setIfInBounds_toArray, List.set_cons_zero, List.set_cons_succ]
                    refine ord_q (d := some 121) (v := undef) rfl rfl (Or.inr ⟨by kernel_rfl, rfl⟩) ?_
                    try simp only [Act.put, List.setIfInBounds_toArray, List.set_cons_zero, List.set_cons_succ]
                    refine ord_q (d := some 122) (v := undef) rfl rfl (Or.inr ⟨by kernel_rfl, rfl⟩) ?_
                    try simp only [Act.put, List.setIfInBounds_toArray, List.set_cons_zero, List.set_cons_succ]
                    refine ord_q (d := some 123) (v := ?_) rfl rfl (Or.inl ⟨by rfl, ?_⟩) ?_
                    rotate_left
                    · intro wz hSw
                      obtain ⟨x0, x1⟩ := SH.out wz hSw
                      go_simp
                      (try with_reducible rfl)
                    try simp only [Act.put, List.setIfInBounds_toArray, List.set_cons_zero, List.set_cons_succ]
                    refine ord_q (d := some 124) (v := ?_) rfl rfl (Or.inl ⟨by rfl, ?_⟩) ?_
                    rotate_left
                    · intro wz hSw
                      obtain ⟨x0, x1⟩ := SH.out wz hSw
                      go_simp
                      (try with_reducible rfl)
                    try simp only [Act.put, List.setIfInBounds_toArray, List.set_cons_zero, List.set_cons_succ]
                    refine ord_q (d := some 125) (v := ?_) rfl rfl (Or.inl ⟨by rfl, ?_⟩) ?_
                    rotate_left
                    · intro wz hSw
                      obtain ⟨x0, x1⟩ := SH.out wz hSw
                      go_simp
                      (try with_reducible rfl)
                    try simp only [Act.put, List.setIfInBounds_toArray, List.set_cons_zero, List.set_cons_succ]
                    refine ord_q (d := some 126) (v := ?_) rfl rfl (Or.inl ⟨by rfl, ?_⟩) ?_
                    rotate_left
                    · intro wz hSw
                      obtain ⟨x0, x1⟩ := SH.out wz hSw
                      go_simp
                      (try with_reducible rfl)
                    try simp only [Act.put, List.setIfInBounds_toArray, List.set_cons_zero, List.set_cons_succ]
                    refine ord_q (d := some 127) (v := ?_) rfl rfl (Or.inl ⟨by rfl, ?_⟩) ?_
                    rotate_left
                    · intro wz hSw
                      obtain ⟨x0, x1⟩ := SH.out wz hSw
                      go_simp
                      (try with_reducible rfl)
                    try simp only [Act.put, List.setIfInBounds_toArray, List.set_cons_zero, List.set_cons_succ]
                    refine ord_q (d := some 128) (v := ?_) rfl rfl (Or.inl ⟨by rfl, ?_⟩) ?_
                    rotate_left
                    · intro wz hSw
                      obtain ⟨x0, x1⟩ := SH.out wz hSw
                      go_simp
                      (try with_reducible rfl)
                    try simp only [Act.put, List.setIfInBounds_toArray, List.set_cons_zero, List.set_cons_succ]
                    refine ord_q (d := some 129) (v := ?_) rfl rfl (Or.inl ⟨by rfl, ?_⟩) ?_
                    rotate_left
                    · intro wz hSw
                      obtain ⟨x0, x1⟩ := SH.out wz hSw
                      go_simp
                      (try with_reducible rfl)
                    try simp only [Act.put, List.setIfInBounds_toArray, List.set_cons_zero, List.set_cons_succ]
                    refine ord_q (d := some 130) (v := ?_) rfl rfl (Or.inl ⟨by rfl, ?_⟩) ?_
                    rotate_left
                    · intro wz hSw
                      obtain ⟨x0, x1⟩ := SH.out wz hSw
                      go_simp
                      (try with_reducible rfl)
                    try simp only [Act.put, List.setIfInBounds_toArray, List.set_cons_zero, List.set_cons_succ]
                    refine ord_q (d := some 131) (v := ?_) rfl rfl (Or.inl ⟨by rfl, ?_⟩) ?_
                    rotate_left
                    · intro wz hSw
                      obtain ⟨x0, x1⟩ := SH.out wz hSw
                      go_simp
                      (try with_reducible rfl)
                    try simp only [Act.put, List.setIfInBounds_toArray, List.set_cons_zero, List.set_cons_succ]
                    refine ord_q (d := some 132) (v := ?_) rfl rfl (Or.inl ⟨by rfl, ?_⟩) ?_
                    rotate_left
                    · intro wz hSw
                      obtain ⟨x0, x1⟩ := SH.out wz hSw
                      go_simp
                      (try with_reducible rfl)
                    try simp only [Act.put, List.setIfInBounds_toArray, List.set_cons_zero, List.set_cons_succ]
                    refine ord_q (d := some 133) (v := ?_) rfl rfl (Or.inl ⟨by rfl, ?_⟩) ?_
                    rotate_left
                    · intro wz hSw
                      obtain ⟨x0, x1⟩ := SH.out wz hSw
                      go_simp
                      (try with_reducible rfl)
                    try simp only [Act.put, List.setIfInBounds_toArray, List.set_cons_zero, List.set_cons_succ]
                    refine ord_q (d := some 134) (v := ?_) rfl rfl (Or.inl ⟨by rfl, ?_⟩) ?_
                    rotate_left
                    · intro wz hSw
                      obtain ⟨x0, x1⟩ := SH.out wz hSw
                      go_simp
                      (try with_reducible rfl)
                    try simp only [Act.put, List.setIfInBounds_toArray, List.set_cons_zero, List.set_cons_succ]
                    refine ord_q (d := some 135) (v := ?_) rfl rfl (Or.inl ⟨by rfl, ?_⟩) ?_
                    rotate_left
                    · intro wz hSw
                      obtain ⟨x0, x1⟩ := SH.out wz hSw
                      go_simp
                      (try with_reducible rfl)
                    try simp only [Act.put, List.setIfInBounds_toArray, List.set_cons_zero, List.set_cons_succ]
                    refine ord_q (d := some 136) (v := ?_) rfl rfl (Or.inl ⟨by rfl, ?_⟩) ?_
                    rotate_left
                    · intro wz hSw
                      obtain ⟨x0, x1⟩ := SH.out wz hSw
                      go_simp
                      (try with_reducible rfl)
                    try simp only [Act.put, List.setIfInBounds_toArray, List.set_cons_zero, List.set_cons_succ]
                    refine ord_q (d := some 137) (v := ?_) rfl rfl (Or.inl ⟨by rfl, ?_⟩) ?_
                    rotate_left
                    · intro wz hSw
                      obtain ⟨x0, x1⟩ := SH.out wz hSw
                      go_simp
                      (try with_reducible rfl)
                    try simp only [Act.put, List.setIfInBounds_toArray, List.set_cons_zero, List.set_cons_succ]
                    refine ord_nil ?_
                    go_wp2_with fail
                    go_meet
                    exact ⟨b, T, c, g, last, a, rfl, rfl, rfl, Lib.hid S3.out.drew, Lib.hid Q3.out⟩
              · have e3 := T1E.out 3 k3
                by_cases k4 : qk = 4
                · subst k4
                  as_aux_lemma =>
                    have ha11 : a ≤ 11 := by have := S2.out.hl; have := S2.out.ha; omega
                    go_wp2_with fail
                    refine (scroll15 qx W0 S2.out.p ha11 hX).mono ?_
                    rintro e W1 ⟨rfl, h1⟩
                    have P1 := Lib.hid h1.1
                    have K1 := Lib.hid h1.2
                    have R1 := Lib.hid (S2.out.rk h1.2)
                    have Q1 := Lib.hid ((h1.2.block TQ (blk_lt QB.out) (by have := QT.out; omega)).trans QB.out)
                    clear h1 c0 c1 c2 c3
                    have dA : (a : Int) < (last : Int) + 1 := by have := S2.out.ha; omega
                    have dA2 : (a : Int) < ((last + 1 : Nat) : Int) := by have := S2.out.ha; omega
                    go_upto_region 34 with (refine wpList_cln _ rfl _ _ rfl W1.heap.size W1 W1.heap.size rfl (empE W1.heap.size W1 W1 (Below.refl _ _) (Nat.le_refl _)) T (last + 1) (last + 1) c g rfl (R1.out.alloc _) (Nat.le_refl _) S2.out.hc (by have := S2.out.hl; omega) ?_; intro T3 c3 w4 O4 hT3 hc3; have R4 := Lib.hid O4.rkl; have B4 := Lib.hid O4.2.1; clear O4)
                    have hal : a < last + 1 := by have := S2.out.ha; omega
                    have r1 := R4.out.scr a hal
                    have f1 := R4.out.fro (a * 2 + 1)
                    have Q4 := Lib.hid (blk_call Q1.out B4.out)
                    have c2 := blk_cell Q4.out 2
                    simp at c2
                    have R5 := Lib.hid (R4.out.setScr a hal (clI qx))
                    have B5 := Lib.hid (below_put2 B4.out B4.out.size hT3 (a * 2 + 1) (.int .u64 (clI qx)))
                    go_wp2_with (go_at_call 16; refine (clean' _ _ hX).mono ?_; rintro e w5 ⟨rfl, rfl⟩)
                    go_meet
                    exact ⟨b, T3, c3, _, last, a, rfl, rfl, rfl, Lib.hid (S2.out.next P1.out K1.out B5.out hT3 R5.out S2.out.hl S2.out.ha hc3 (ok_put S2.out.ok (oks_clean qx))), Lib.hid (blk_call Q1.out B5.out)⟩
                · have e4 := T1E.out 4 k4
                  by_cases k5 : qk = 5
                  · subst k5
                    as_aux_lemma =>
                      have ha11 : a ≤ 11 := by have := S2.out.hl; have := S2.out.ha; omega
                      go_wp2_with fail
                      refine (copy17 W0 S2.out.p).mono ?_
                      rintro e W1 ⟨b2, rfl, hb2, p2, B1⟩
                      clear c0 c1 c2 c3
                      go_wp2_with fail
                      by_cases h11 : a = 11
                      · have p2' : Pc W1 b2 g last 11 := h11 ▸ p2
                        clear h11
                        refine (push9_full ⟨#[122, 122]⟩ W1 p2').mono ?_
                        rintro e W2 ⟨rfl, rfl⟩
                        have p3 := p2
                        have B2 := B1
                        clear p2 p2' B1
                        go_wp2_with fail
                        refine (replace14 ⟨#[121]⟩ W2 p3 (by omega)).mono ?_
                        rintro e W3 ⟨rfl, h3⟩
                        have B3 := h3.below B2 B2.size hb2
                        have p4 := h3.1
                        clear h3 p3 B2
                        go_wp2_with fail
                        refine (scroll15 5 W3 p4 (by omega) (by unfold U64; omega)).mono ?_
                        rintro e W4 ⟨rfl, h4⟩
                        have B4 := h4.below B3 B3.size hb2
                        clear h4 p4 B3
                        go_wp2_with fail
                        go_meet
                        exact ⟨b, T, c, g, last, a, rfl, rfl, rfl, Lib.hid (S2.out.call B4), Lib.hid (blk_call QB.out B4)⟩
                      · refine (push9_ok ⟨#[122, 122]⟩ W1 p2 (by omega)).mono ?_
                        rintro e W2 ⟨rfl, h2⟩
                        have B2 := h2.below B1 B1.size hb2
                        have p3 := h2.1
                        clear h2 p2 B1
                        go_wp2_with fail
                        refine (replace14 ⟨#[121]⟩ W2 p3 (by omega)).mono ?_
                        rintro e W3 ⟨rfl, h3⟩
                        have B3 := h3.below B2 B2.size hb2
                        have p4 := h3.1
                        clear h3 p3 B2
                        go_wp2_with fail
                        refine (scroll15 5 W3 p4 (by omega) (by unfold U64; omega)).mono ?_
                        rintro e W4 ⟨rfl, h4⟩
                        have B4 := h4.below B3 B3.size hb2
                        clear h4 p4 B3
                        go_wp2_with fail
                        go_meet
                        exact ⟨b, T, c, g, last, a, rfl, rfl, rfl, Lib.hid (S2.out.call B4), Lib.hid (blk_call QB.out B4)⟩
                  · have e5 := T1E.out 5 k5
                    by_cases k6 : qk = 6
                    · subst k6
                      as_aux_lemma =>
                        have hl11 : last ≤ 11 := S2.out.hl
                        go_wp2_with fail
                        refine (entries12 W0 S2.out.p hl11).mono ?_
                        rintro e W1 ⟨v1, rfl, hv1⟩
                        have S3 := Lib.hid (S2.out.call hv1.2.1)
                        have Q3 := Lib.hid (blk_call QB.out hv1.2.1)
                        have ES := Lib.hid hv1.es
                        clear hv1 S2 QB c0 c1 c2 c3
                        go_wp2_with fail
                        refine (at13 W1 S3.out.p).mono ?_
                        rintro e W2 ⟨rfl, rfl⟩
                        have hU : ∀ e ∈ lis g (last + 1), U64 e.2 := by
                          intro e he
                          obtain ⟨i, hi, rfl⟩ := List.mem_map.1 he
                          exact (S3.out.ok i (by have : i < last + 1 := by simpa using hi
                                                 omega)).1
                        go_wp2_with fail
                        refine (from18_yes v1 (lis g (last + 1)) a W1 ES.out hU (by rw [lis_len]; have := S3.out.ha; omega) (by rw [lis_len]; omega)).mono ?_
                        rintro e W3 ⟨b2, rfl, hb2, p2, hb3⟩
                        rw [lis_len] at p2
                        have hg : ∀ i, i < last + 1 → g i = fromK (lis g (last + 1)) (last + 1) i := by
                          intro i hi
                          unfold fromK
                          rw [if_pos hi, lis_get g _ i hi]
                          unfold clE
                          rw [(S3.out.ok i (by omega)).2]
                        have N3 : Hid (Sta w b2 T c (fromK (lis g (last + 1)) (last + 1)) last a W3) := by
                          have h1 := S3.out.below.size
                          have h2 := S3.out.r.lt
                          refine ⟨p2, (S3.out.r.call hb3).congr hg, S3.out.hl, S3.out.ha, S3.out.hc, by omega, S3.out.hT, by omega, S3.out.below.trans (hb3.mono h1), fun i hi => ?_⟩
                          rw [← hg i (by omega)]
                          exact S3.out.ok i hi
                        have Q4 := Lib.hid (blk_call Q3.out hb3)
                        clear p2 hb3 hg hU S3 Q3
                        generalize fromK (lis g (last + 1)) (last + 1) = g6 at *
                        go_wp2_with fail
                        go_meet
                        exact ⟨b2, T, c, g6, last, a, rfl, rfl, rfl, N3, Q4⟩
                    · have e6 := T1E.out 6 k6
                      go_wp2_with fail
                      go_meet
                      exact ⟨b, T, c, g, last, a, rfl, rfl, rfl, S2, QB⟩
        case rest =>
          as_aux_lemma =>
            obtain ⟨b, T, c, g, last, a, rfl, rfl, rfl, S5, Q5⟩ := hcut
            clear S2 QB QT c0 c1 c2 c3 T1E
            have hl11 : last ≤ 11 := S5.out.hl
            have hal : a ≤ last := S5.out.ha
            have hcl : last + 1 ≤ c := S5.out.hc
            have P5 := Lib.hid S5.out.p
            have R5 := Lib.hid S5.out.r
            have x0 := blk_cell Q5.out 1
            simp at x0
            have q0 := R5.out.txt a (by omega)
            have q1 := R5.out.scr a (by omega)
            have SH : Hid (∀ W, Below wc.heap.size wc W → W.cell? ⟨TQ, 1, none⟩ = some (.int .i64 qn) ∧ W.cell? ⟨T, a * 2, none⟩ = some (.string (g a).1) ∧ W.cell? ⟨T, a * 2 + 1, none⟩ = some (.int .u64 (g a).2)) := by
              intro W hW
              have k : ∀ (p : Addr) (v : Value), wc.cell? p = some v → W.cell? p = some v := fun p v hc => by rw [hW.cell (World.block_lt_of_cell? _ _ hc)]; exact hc
              exact ⟨k _ _ x0, k _ _ q0, k _ _ q1⟩
            clear x0 q0 q1
            have dA : (a : Int) < (last : Int) + 1 := by omega
            have dA2 : (a : Int) < ((last + 1 : Nat) : Int) := by omega
            have j1 : IntKind.i64.wrap (last : Int) = last := IntWalk.i64_in _ (by omega)
            have j2 : IntKind.i64.wrap ((last : Int) - a) = (last : Int) - a := IntWalk.i64_in _ (by omega)
            have j3 : IntKind.i64.wrap (-(a : Int)) = -(a : Int) := IntWalk.i64_in _ (by omega)
            have j4 : (last : Int) + 1 - 1 = last := by omega
            have n1 : ((a : Int) != (a : Int)) = false := by simp
            go_upto_region 46 with fail
            by_cases h1 : -(a : Int) ≤ qn
            · have hcanE : canB last a qn = decide (qn ≤ (last : Int) - a) := by simp [canB, h1]
              refine wp_region_ord ((true, 0) :: (true, 2) :: (false, 1) :: (false, 3) :: (true, 4) :: (true, 5) :: (true, 6) :: (true, 8) :: (false, 7) :: (true, 9) :: (true, 10) :: (true, 11) :: (true, 12) :: (true, 14) :: (true, 15) :: (true, 16) :: (true, 17) :: (false, 13) :: (true, 18) :: (true, 19) :: (true, 20) :: (true, 21) :: (true, 22) :: (true, 23) :: (true, 25) :: (true, 26) :: (true, 27) :: (true, 28) :: (true, 29) :: (false, 24) :: (true, 30) :: (true, 31) :: (true, 32) :: (true, 33) :: (true, 34) :: (true, 35) :: (true, 36) :: (true, 37) :: (true, 38) :: (true, 39) :: (true, 40) :: (true, 41) :: []) (fun W => Below wc.heap.size wc W) (by kernel_rfl) (by kernel_rfl) (by decide) (by kernel_rfl) (fun d _ _ _ _ h => by cases d <;> exact h) ((Below.refl _ wc).drew) ?_
              have S0 : Below wc.heap.size wc wc.drew := (Below.refl _ wc).drew
              generalize wc.drew = wd at S0 ⊢
              refine ord_q (d := some 175) (v := ?_) rfl rfl (Or.inl ⟨by rfl, ?_⟩) ?_
              rotate_left
              · intro wz hSw
                obtain ⟨x0, q0, q1⟩ := SH.out wz hSw
                go_simp
                (try with_reducible rfl)
              try simp only [Act.put, List.setIfInBounds_toArray, List.set_cons_zero, List.set_cons_succ]
              refine ord_q (d := some 177) (v := ?_) rfl rfl (Or.inl ⟨by rfl, ?_⟩) ?_
              rotate_left
              · intro wz hSw
                obtain ⟨x0, q0, q1⟩ := SH.out wz hSw
                go_simp
                (try with_reducible rfl)
              try simp only [Act.put, List.setIfInBounds_toArray, List.set_cons_zero, List.set_cons_succ]
              refine ord_l ?_
              refine wpOp_step rfl (fun K' hK => ?_)
              have HK := Lib.hid hK
              clear hK
              rw [if_pos (by rfl)]
              go_simp
              refine (entries12 wd (P5.out.call S0) hl11).mono ?_
              rintro e w8 ⟨v8, rfl, hv8⟩
              have S1 := S0.trans (hv8.2.1.mono S0.size)
              refine HK.out _ _ ⟨S1, ?_⟩
              clear HK
              try change OrdW _ _ _ _ _ (Act.put _ (some 176) _) _
              try simp only [Act.put, List.setIfInBounds_toArray, List.set_cons_zero, List.set_cons_succ]
              refine ord_l ?_
              refine wpOp_step rfl (fun K' hK => ?_)
              have HK := Lib.hid hK
              clear hK
              rw [if_pos (by rfl)]
              go_simp
              refine (same11 _ _ _ _ w8 hv8.es ((R5.out.call S1).es (last + 1) c (Nat.le_refl _) hcl) (by rw [lis_len]; omega)).mono ?_
              rintro e w9 ⟨rfl, hb9⟩
              have S2 := S1.trans (hb9.mono S1.size)
              rw [show decide (lis g (last + 1) = lis g (last + 1)) = true by simp]
              refine HK.out _ _ ⟨S2, ?_⟩
              clear HK
              try change OrdW _ _ _ _ _ (Act.put _ (some 178) _) _
              try simp only [Act.put, List.setIfInBounds_toArray, List.set_cons_zero, List.set_cons_succ]
              refine ord_q (d := some 179) (v := ?_) rfl rfl (Or.inl ⟨by rfl, ?_⟩) ?_
              rotate_left
              · intro wz hSw
                obtain ⟨x0, q0, q1⟩ := SH.out wz hSw
                go_simp
                (try with_reducible rfl)
              try simp only [Act.put, List.setIfInBounds_toArray, List.set_cons_zero, List.set_cons_succ]
              refine ord_q (d := some 180) (v := ?_) rfl rfl (Or.inl ⟨by rfl, ?_⟩) ?_
              rotate_left
              · intro wz hSw
                obtain ⟨x0, q0, q1⟩ := SH.out wz hSw
                go_simp
                (try with_reducible rfl)
              try simp only [Act.put, List.setIfInBounds_toArray, List.set_cons_zero, List.set_cons_succ]
              refine ord_q (d := some 181) (v := ?_) rfl rfl (Or.inl ⟨by rfl, ?_⟩) ?_
              rotate_left
              · intro wz hSw
                obtain ⟨x0, q0, q1⟩ := SH.out wz hSw
                go_simp
                (try with_reducible rfl)
              try simp only [Act.put, List.setIfInBounds_toArray, List.set_cons_zero, List.set_cons_succ]
              refine ord_q (d := some 183) (v := ?_) rfl rfl (Or.inl ⟨by rfl, ?_⟩) ?_
              rotate_left
              · intro wz hSw
                obtain ⟨x0, q0, q1⟩ := SH.out wz hSw
                go_simp
                (try with_reducible rfl)
              try simp only [Act.put, List.setIfInBounds_toArray, List.set_cons_zero, List.set_cons_succ]
              refine ord_l ?_
              refine wpOp_step rfl (fun K' hK => ?_)
              have HK := Lib.hid hK
              clear hK
              rw [if_pos (by rfl)]
              go_simp
              refine (at13 w9 (P5.out.call S2)).mono ?_
              rintro e w10 ⟨rfl, rfl⟩
              refine HK.out _ _ ⟨S2, ?_⟩
              clear HK
              try change OrdW _ _ _ _ _ (Act.put _ (some 182) _) _
              try simp only [Act.put, List.setIfInBounds_toArray, List.set_cons_zero, List.set_cons_succ]
              refine ord_q (d := some 184) (v := ?_) rfl rfl (Or.inl ⟨by rfl, ?_⟩) ?_
              rotate_left
              · intro wz hSw
                obtain ⟨x0, q0, q1⟩ := SH.out wz hSw
                go_simp
                (try with_reducible rfl)
              try simp only [Act.put, List.setIfInBounds_toArray, List.set_cons_zero, List.set_cons_succ]
              refine ord_q (d := some 185) (v := ?_) rfl rfl (Or.inl ⟨by rfl, ?_⟩) ?_
              rotate_left
              · intro wz hSw
                obtain ⟨x0, q0, q1⟩ := SH.out wz hSw
                go_simp
                (try with_reducible rfl)
              try simp only [Act.put, List.setIfInBounds_toArray, List.set_cons_zero, List.set_cons_succ]
              refine ord_q (d := some 186) (v := ?_) rfl rfl (Or.inl ⟨by rfl, ?_⟩) ?_
              rotate_left
              · intro wz hSw
                obtain ⟨x0, q0, q1⟩ := SH.out wz hSw
                go_simp
                (try with_reducible rfl)
              try simp only [Act.put, List.setIfInBounds_toArray, List.set_cons_zero, List.set_cons_succ]
              refine ord_q (d := some 187) (v := ?_) rfl rfl (Or.inl ⟨by rfl, ?_⟩) ?_
              rotate_left
              · intro wz hSw
                obtain ⟨x0, q0, q1⟩ := SH.out wz hSw
                go_simp
                (try with_reducible rfl)
              try simp only [Act.put, List.setIfInBounds_toArray, List.set_cons_zero, List.set_cons_succ]
              refine ord_q (d := some 189) (v := ?_) rfl rfl (Or.inl ⟨by rfl, ?_⟩) ?_
              rotate_left
              · intro wz hSw
                obtain ⟨x0, q0, q1⟩ := SH.out wz hSw
                go_simp
                (try with_reducible rfl)
              try simp only [Act.put, List.setIfInBounds_toArray, List.set_cons_zero, List.set_cons_succ]
              refine ord_q (d := some 190) (v := ?_) rfl rfl (Or.inl ⟨by rfl, ?_⟩) ?_
              rotate_left
              · intro wz hSw
                obtain ⟨x0, q0, q1⟩ := SH.out wz hSw
                go_simp
                (try with_reducible rfl)
              try simp only [Act.put, List.setIfInBounds_toArray, List.set_cons_zero, List.set_cons_succ]
              refine ord_q (d := some 191) (v := ?_) rfl rfl (Or.inl ⟨by rfl, ?_⟩) ?_
              rotate_left
              · intro wz hSw
                obtain ⟨x0, q0, q1⟩ := SH.out wz hSw
                go_simp
                (try with_reducible rfl)
              try simp only [Act.put, List.setIfInBounds_toArray, List.set_cons_zero, List.set_cons_succ]
              refine ord_q (d := some 192) (v := ?_) rfl rfl (Or.inl ⟨by rfl, ?_⟩) ?_
              rotate_left
              · intro wz hSw
                obtain ⟨x0, q0, q1⟩ := SH.out wz hSw
                go_simp
                (try with_reducible rfl)
              try simp only [Act.put, List.setIfInBounds_toArray, List.set_cons_zero, List.set_cons_succ]
              refine ord_l ?_
              refine wpOp_step rfl (fun K' hK => ?_)
              have HK := Lib.hid hK
              clear hK
              rw [if_pos (by rfl)]
              go_simp
              refine (now19 w9 (P5.out.call S2) (by omega)).mono ?_
              rintro e w11 ⟨rfl, hb11⟩
              have S3 := S2.trans (hb11.mono S2.size)
              refine HK.out _ _ ⟨S3, ?_⟩
              clear HK
              try change OrdW _ _ _ _ _ (Act.put _ (some 188) _) _
              try simp only [Act.put, List.setIfInBounds_toArray, List.set_cons_zero, List.set_cons_succ]
              refine ord_q (d := some 193) (v := ?_) rfl rfl (Or.inl ⟨by rfl, ?_⟩) ?_
              rotate_left
              · intro wz hSw
                obtain ⟨x0, q0, q1⟩ := SH.out wz hSw
                go_simp
                (try with_reducible rfl)
              try simp only [Act.put, List.setIfInBounds_toArray, List.set_cons_zero, List.set_cons_succ]
              refine ord_q (d := some 194) (v := ?_) rfl rfl (Or.inl ⟨by rfl, ?_⟩) ?_
              rotate_left
              · intro wz hSw
                obtain ⟨x0, q0, q1⟩ := SH.out wz hSw
                go_simp
                (try with_reducible rfl)
              try simp only [Act.put, List.setIfInBounds_toArray, List.set_cons_zero, List.set_cons_succ]
              refine ord_q (d := some 195) (v := ?_) rfl rfl (Or.inl ⟨by rfl, ?_⟩) ?_
              rotate_left
              · intro wz hSw
                obtain ⟨x0, q0, q1⟩ := SH.out wz hSw
                go_simp
                (try with_reducible rfl)
              try simp only [Act.put, List.setIfInBounds_toArray, List.set_cons_zero, List.set_cons_succ]
              refine ord_q (d := some 196) (v := ?_) rfl rfl (Or.inl ⟨by rfl, ?_⟩) ?_
              rotate_left
              · intro wz hSw
                obtain ⟨x0, q0, q1⟩ := SH.out wz hSw
                go_simp
                (try with_reducible rfl)
              try simp only [Act.put, List.setIfInBounds_toArray, List.set_cons_zero, List.set_cons_succ]
              refine ord_q (d := some 197) (v := ?_) rfl rfl (Or.inl ⟨by rfl, ?_⟩) ?_
              rotate_left
              · intro wz hSw
                obtain ⟨x0, q0, q1⟩ := SH.out wz hSw
                go_simp
                (try with_reducible rfl)
              try simp only [Act.put, List.setIfInBounds_toArray, List.set_cons_zero, List.set_cons_succ]
              refine ord_q (d := some 198) (v := ?_) rfl rfl (Or.inl ⟨by rfl, ?_⟩) ?_
              rotate_left
              · intro wz hSw
                obtain ⟨x0, q0, q1⟩ := SH.out wz hSw
                go_simp
                (try with_reducible rfl)
              try simp only [Act.put, List.setIfInBounds_toArray, List.set_cons_zero, List.set_cons_succ]
              refine ord_q (d := some 200) (v := ?_) rfl rfl (Or.inl ⟨by rfl, ?_⟩) ?_
              rotate_left
              · intro wz hSw
                obtain ⟨x0, q0, q1⟩ := SH.out wz hSw
                go_simp
                (try with_reducible rfl)
              try simp only [Act.put, List.setIfInBounds_toArray, List.set_cons_zero, List.set_cons_succ]
              refine ord_q (d := some 201) (v := ?_) rfl rfl (Or.inl ⟨by rfl, ?_⟩) ?_
              rotate_left
              · intro wz hSw
                obtain ⟨x0, q0, q1⟩ := SH.out wz hSw
                go_simp
                (try with_reducible rfl)
              try simp only [Act.put, List.setIfInBounds_toArray, List.set_cons_zero, List.set_cons_succ]
              refine ord_q (d := some 202) (v := ?_) rfl rfl (Or.inl ⟨by rfl, ?_⟩) ?_
              rotate_left
              · intro wz hSw
                obtain ⟨x0, q0, q1⟩ := SH.out wz hSw
                go_simp
                (try with_reducible rfl)
              try simp only [Act.put, List.setIfInBounds_toArray, List.set_cons_zero, List.set_cons_succ]
              refine ord_q (d := some 203) (v := ?_) rfl rfl (Or.inl ⟨by rfl, ?_⟩) ?_
              rotate_left
              · intro wz hSw
                obtain ⟨x0, q0, q1⟩ := SH.out wz hSw
                go_simp
                (try with_reducible rfl)
              try simp only [Act.put, List.setIfInBounds_toArray, List.set_cons_zero, List.set_cons_succ]
              refine ord_q (d := some 204) (v := ?_) rfl rfl (Or.inl ⟨by rfl, ?_⟩) ?_
              rotate_left
              · intro wz hSw
                obtain ⟨x0, q0, q1⟩ := SH.out wz hSw
                go_simp
                (try with_reducible rfl)
              try simp only [Act.put, List.setIfInBounds_toArray, List.set_cons_zero, List.set_cons_succ]
              refine ord_l ?_
              refine wpOp_step rfl (fun K' hK => ?_)
              have HK := Lib.hid hK
              clear hK
              rw [if_pos (by rfl)]
              go_simp
              refine (can20b qn w11 (P5.out.call S3) hl11 hal).mono ?_
              rintro e w12 ⟨rfl, hb12⟩
              have S4 := S3.trans (hb12.mono S3.size)
              rw [hcanE]
              refine HK.out _ _ ⟨S4, ?_⟩
              clear HK
              try change OrdW _ _ _ _ _ (Act.put _ (some 199) _) _
              try simp only [Act.put, List.setIfInBounds_toArray, List.set_cons_zero, List.set_cons_succ]
              refine ord_q (d := some 205) (v := ?_) rfl rfl (Or.inl ⟨by rfl, ?_⟩) ?_
              rotate_left
              · intro wz hSw
                obtain ⟨x0, q0, q1⟩ := SH.out wz hSw
                go_simp
                (try with_reducible rfl)
              try simp only [Act.put, List.setIfInBounds_toArray, List.set_cons_zero, List.set_cons_succ]
              refine ord_q (d := some 206) (v := ?_) rfl rfl (Or.inl ⟨by rfl, ?_⟩) ?_
              rotate_left
              · intro wz hSw
                obtain ⟨x0, q0, q1⟩ := SH.out wz hSw
                go_simp
                (try with_reducible rfl)
              try simp only [Act.put, List.setIfInBounds_toArray, List.set_cons_zero, List.set_cons_succ]
              refine ord_q (d := some 207) (v := ?_) rfl rfl (Or.inl ⟨by rfl, ?_⟩) ?_
              rotate_left
              · intro wz hSw
                obtain ⟨x0, q0, q1⟩ := SH.out wz hSw
                go_simp
                (try with_reducible rfl)
              try simp only [Act.put, List.setIfInBounds_toArray, List.set_cons_zero, List.set_cons_succ]
              refine ord_q (d := some 208) (v := ?_) rfl rfl (Or.inl ⟨by rfl, ?_⟩) ?_
              rotate_left
              · intro wz hSw
                obtain ⟨x0, q0, q1⟩ := SH.out wz hSw
                go_simp
                (try with_reducible rfl)
              try simp only [Act.put, List.setIfInBounds_toArray, List.set_cons_zero, List.set_cons_succ]
              refine ord_q (d := some 209) (v := ?_) rfl rfl (Or.inl ⟨by rfl, ?_⟩) ?_
              rotate_left
              · intro wz hSw
                obtain ⟨x0, q0, q1⟩ := SH.out wz hSw
                go_simp
                (try with_reducible rfl)
              try simp only [Act.put, List.setIfInBounds_toArray, List.set_cons_zero, List.set_cons_succ]
              refine ord_q (d := some 210) (v := ?_) rfl rfl (Or.inl ⟨by rfl, ?_⟩) ?_
              rotate_left
              · intro wz hSw
                obtain ⟨x0, q0, q1⟩ := SH.out wz hSw
                go_simp
                (try with_reducible rfl)
              try simp only [Act.put, List.setIfInBounds_toArray, List.set_cons_zero, List.set_cons_succ]
              refine ord_q (d := some 211) (v := ?_) rfl rfl (Or.inl ⟨by rfl, ?_⟩) ?_
              rotate_left
              · intro wz hSw
                obtain ⟨x0, q0, q1⟩ := SH.out wz hSw
                go_simp
                (try with_reducible rfl)
              try simp only [Act.put, List.setIfInBounds_toArray, List.set_cons_zero, List.set_cons_succ]
              refine ord_q (d := some 212) (v := ?_) rfl rfl (Or.inl ⟨by rfl, ?_⟩) ?_
              rotate_left
              · intro wz hSw
                obtain ⟨x0, q0, q1⟩ := SH.out wz hSw
                go_simp
                (try with_reducible rfl)
              try simp only [Act.put, List.setIfInBounds_toArray, List.set_cons_zero, List.set_cons_succ]
              refine ord_q (d := some 213) (v := ?_) rfl rfl (Or.inl ⟨by rfl, ?_⟩) ?_
              rotate_left
              · intro wz hSw
                obtain ⟨x0, q0, q1⟩ := SH.out wz hSw
                go_simp
                (try with_reducible rfl)
              try simp only [Act.put, List.setIfInBounds_toArray, List.set_cons_zero, List.set_cons_succ]
              refine ord_q (d := some 214) (v := ?_) rfl rfl (Or.inl ⟨by rfl, ?_⟩) ?_
              rotate_left
              · intro wz hSw
                obtain ⟨x0, q0, q1⟩ := SH.out wz hSw
                go_simp
                (try with_reducible rfl)
              try simp only [Act.put, List.setIfInBounds_toArray, List.set_cons_zero, List.set_cons_succ]
              refine ord_q (d := some 215) (v := ?_) rfl rfl (Or.inl ⟨by rfl, ?_⟩) ?_
              rotate_left
              · intro wz hSw
                obtain ⟨x0, q0, q1⟩ := SH.out wz hSw
                go_simp
                (try with_reducible rfl)
              try simp only [Act.put, List.setIfInBounds_toArray, List.set_cons_zero, List.set_cons_succ]
              refine ord_q (d := some 216) (v := ?_) rfl rfl (Or.inl ⟨by rfl, ?_⟩) ?_
              rotate_left
              · intro wz hSw
                obtain ⟨x0, q0, q1⟩ := SH.out wz hSw
                go_simp
                (try with_reducible rfl)
              try simp only [Act.put, List.setIfInBounds_toArray, List.set_cons_zero, List.set_cons_succ]
              refine ord_nil ?_
              go_wp2_with fail
              go_roundw
              case rel => exact ⟨k + 1, b, T, c, g, last, a, by omega, by go_num, rfl, rfl, rfl, Lib.hid (S5.out.call S4)⟩
              case measure => simp [intOf]; omega
            · have hcanE : canB last a qn = false := by simp [canB, h1]
              have h1' : decide (-(a : Int) ≤ qn) = false := by simpa using h1
              refine wp_region_ord ((true, 0) :: (true, 2) :: (false, 1) :: (false, 3) :: (true, 4) :: (true, 5) :: (true, 6) :: (true, 8) :: (false, 7) :: (true, 9) :: (true, 10) :: (true, 11) :: (true, 12) :: (true, 14) :: (true, 15) :: (true, 16) :: (true, 17) :: (false, 13) :: (true, 18) :: (true, 19) :: (true, 20) :: (true, 21) :: (true, 22) :: (true, 23) :: (true, 25) :: (true, 26) :: (true, 27) :: (true, 28) :: (true, 29) :: (false, 24) :: (true, 30) :: (true, 31) :: (true, 32) :: (true, 33) :: (true, 34) :: (true, 35) :: (true, 36) :: (true, 37) :: (true, 38) :: (true, 39) :: (true, 40) :: (true, 41) :: []) (fun W => Below wc.heap.size wc W) (by kernel_rfl) (by kernel_rfl) (by decide) (by kernel_rfl) (fun d _ _ _ _ h => by cases d <;> exact h) ((Below.refl _ wc).drew) ?_
              have S0 : Below wc.heap.size wc wc.drew := (Below.refl _ wc).drew
              generalize wc.drew = wd at S0 ⊢
              refine ord_q (d := some 175) (v := ?_) rfl rfl (Or.inl ⟨by rfl, ?_⟩) ?_
              rotate_left
              · intro wz hSw
                obtain ⟨x0, q0, q1⟩ := SH.out wz hSw
                go_simp
                (try with_reducible rfl)
              try simp only [Act.put, List.setIfInBounds_toArray, List.set_cons_zero, List.set_cons_succ]
              refine ord_q (d := some 177) (v := ?_) rfl rfl (Or.inl ⟨by rfl, ?_⟩) ?_
              rotate_left
              · intro wz hSw
                obtain ⟨x0, q0, q1⟩ := SH.out wz hSw
                go_simp
                (try with_reducible rfl)
              try simp only [Act.put, List.setIfInBounds_toArray, List.set_cons_zero, List.set_cons_succ]
              refine ord_l ?_
              refine wpOp_step rfl (fun K' hK => ?_)
              have HK := Lib.hid hK
              clear hK
              rw [if_pos (by rfl)]
              go_simp
              refine (entries12 wd (P5.out.call S0) hl11).mono ?_
              rintro e w8 ⟨v8, rfl, hv8⟩
              have S1 := S0.trans (hv8.2.1.mono S0.size)
              refine HK.out _ _ ⟨S1, ?_⟩
              clear HK
              try change OrdW _ _ _ _ _ (Act.put _ (some 176) _) _
              try simp only [Act.put, List.setIfInBounds_toArray, List.set_cons_zero, List.set_cons_succ]
              refine ord_l ?_
              refine wpOp_step rfl (fun K' hK => ?_)
              have HK := Lib.hid hK
              clear hK
              rw [if_pos (by rfl)]
              go_simp
              refine (same11 _ _ _ _ w8 hv8.es ((R5.out.call S1).es (last + 1) c (Nat.le_refl _) hcl) (by rw [lis_len]; omega)).mono ?_
              rintro e w9 ⟨rfl, hb9⟩
              have S2 := S1.trans (hb9.mono S1.size)
              rw [show decide (lis g (last + 1) = lis g (last + 1)) = true by simp]
              refine HK.out _ _ ⟨S2, ?_⟩
              clear HK
              try change OrdW _ _ _ _ _ (Act.put _ (some 178) _) _
              try simp only [Act.put, List.setIfInBounds_toArray, List.set_cons_zero, List.set_cons_succ]
              refine ord_q (d := some 179) (v := ?_) rfl rfl (Or.inl ⟨by rfl, ?_⟩) ?_
              rotate_left
              · intro wz hSw
                obtain ⟨x0, q0, q1⟩ := SH.out wz hSw
                go_simp
                (try with_reducible rfl)
              try simp only [Act.put, List.setIfInBounds_toArray, List.set_cons_zero, List.set_cons_succ]
              refine ord_q (d := some 180) (v := ?_) rfl rfl (Or.inl ⟨by rfl, ?_⟩) ?_
              rotate_left
              · intro wz hSw
                obtain ⟨x0, q0, q1⟩ := SH.out wz hSw
                go_simp
                (try with_reducible rfl)
              try simp only [Act.put, List.setIfInBounds_toArray, List.set_cons_zero, List.set_cons_succ]
              refine ord_q (d := some 181) (v := ?_) rfl rfl (Or.inl ⟨by rfl, ?_⟩) ?_
              rotate_left
              · intro wz hSw
                obtain ⟨x0, q0, q1⟩ := SH.out wz hSw
                go_simp
                (try with_reducible rfl)
              try simp only [Act.put, List.setIfInBounds_toArray, List.set_cons_zero, List.set_cons_succ]
              refine ord_q (d := some 183) (v := ?_) rfl rfl (Or.inl ⟨by rfl, ?_⟩) ?_
              rotate_left
              · intro wz hSw
                obtain ⟨x0, q0, q1⟩ := SH.out wz hSw
                go_simp
                (try with_reducible rfl)
              try simp only [Act.put, List.setIfInBounds_toArray, List.set_cons_zero, List.set_cons_succ]
              refine ord_l ?_
              refine wpOp_step rfl (fun K' hK => ?_)
              have HK := Lib.hid hK
              clear hK
              rw [if_pos (by rfl)]
              go_simp
              refine (at13 w9 (P5.out.call S2)).mono ?_
              rintro e w10 ⟨rfl, rfl⟩
              refine HK.out _ _ ⟨S2, ?_⟩
              clear HK
              try change OrdW _ _ _ _ _ (Act.put _ (some 182) _) _
              try simp only [Act.put, List.setIfInBounds_toArray, List.set_cons_zero, List.set_cons_succ]
              refine ord_q (d := some 184) (v := ?_) rfl rfl (Or.inl ⟨by rfl, ?_⟩) ?_
              rotate_left
              · intro wz hSw
                obtain ⟨x0, q0, q1⟩ := SH.out wz hSw
                go_simp
                (try with_reducible rfl)
              try simp only [Act.put, List.setIfInBounds_toArray, List.set_cons_zero, List.set_cons_succ]
              refine ord_q (d := some 185) (v := ?_) rfl rfl (Or.inl ⟨by rfl, ?_⟩) ?_
              rotate_left
              · intro wz hSw
                obtain ⟨x0, q0, q1⟩ := SH.out wz hSw
                go_simp
                (try with_reducible rfl)
              try simp only [Act.put, List.setIfInBounds_toArray, List.set_cons_zero, List.set_cons_succ]
              refine ord_q (d := some 186) (v := ?_) rfl rfl (Or.inl ⟨by rfl, ?_⟩) ?_
              rotate_left
              · intro wz hSw
                obtain ⟨x0, q0, q1⟩ := SH.out wz hSw
                go_simp
                (try with_reducible rfl)
              try simp only [Act.put, List.setIfInBounds_toArray, List.set_cons_zero, List.set_cons_succ]
              refine ord_q (d := some 187) (v := ?_) rfl rfl (Or.inl ⟨by rfl, ?_⟩) ?_
              rotate_left
              · intro wz hSw
                obtain ⟨x0, q0, q1⟩ := SH.out wz hSw
                go_simp
                (try with_reducible rfl)
              try simp only [Act.put, List.setIfInBounds_toArray, List.set_cons_zero, List.set_cons_succ]
              refine ord_q (d := some 189) (v := ?_) rfl rfl (Or.inl ⟨by rfl, ?_⟩) ?_
              rotate_left
              · intro wz hSw
                obtain ⟨x0, q0, q1⟩ := SH.out wz hSw
                go_simp
                (try with_reducible rfl)
              try simp only [Act.put, List.setIfInBounds_toArray, List.set_cons_zero, List.set_cons_succ]
              refine ord_q (d := some 190) (v := ?_) rfl rfl (Or.inl ⟨by rfl, ?_⟩) ?_
              rotate_left
              · intro wz hSw
                obtain ⟨x0, q0, q1⟩ := SH.out wz hSw
                go_simp
                (try with_reducible rfl)
              try simp only [Act.put, List.setIfInBounds_toArray, List.set_cons_zero, List.set_cons_succ]
              refine ord_q (d := some 191) (v := ?_) rfl rfl (Or.inl ⟨by rfl, ?_⟩) ?_
              rotate_left
              · intro wz hSw
                obtain ⟨x0, q0, q1⟩ := SH.out wz hSw
                go_simp
                (try with_reducible rfl)
              try simp only [Act.put, List.setIfInBounds_toArray, List.set_cons_zero, List.set_cons_succ]
              refine ord_q (d := some 192) (v := ?_) rfl rfl (Or.inl ⟨by rfl, ?_⟩) ?_
              rotate_left
              · intro wz hSw
                obtain ⟨x0, q0, q1⟩ := SH.out wz hSw
                go_simp
                (try with_reducible rfl)
              try simp only [Act.put, List.setIfInBounds_toArray, List.set_cons_zero, List.set_cons_succ]
              refine ord_l ?_
              refine wpOp_step rfl (fun K' hK => ?_)
              have HK := Lib.hid hK
              clear hK
              rw [if_pos (by rfl)]
              go_simp
              refine (now19 w9 (P5.out.call S2) (by omega)).mono ?_
              rintro e w11 ⟨rfl, hb11⟩
              have S3 := S2.trans (hb11.mono S2.size)
              refine HK.out _ _ ⟨S3, ?_⟩
              clear HK
              try change OrdW _ _ _ _ _ (Act.put _ (some 188) _) _
              try simp only [Act.put, List.setIfInBounds_toArray, List.set_cons_zero, List.set_cons_succ]
              refine ord_q (d := some 193) (v := ?_) rfl rfl (Or.inl ⟨by rfl, ?_⟩) ?_
              rotate_left
              · intro wz hSw
                obtain ⟨x0, q0, q1⟩ := SH.out wz hSw
                go_simp
                (try with_reducible rfl)
              try simp only [Act.put, List.setIfInBounds_toArray, List.set_cons_zero, List.set_cons_succ]
              refine ord_q (d := some 194) (v := ?_) rfl rfl (Or.inl ⟨by rfl, ?_⟩) ?_
              rotate_left
              · intro wz hSw
                obtain ⟨x0, q0, q1⟩ := SH.out wz hSw
                go_simp
                (try with_reducible rfl)
              try simp only [Act.put, List.setIfInBounds_toArray, List.set_cons_zero, List.set_cons_succ]
              refine ord_q (d := some 195) (v := ?_) rfl rfl (Or.inl ⟨by rfl, ?_⟩) ?_
              rotate_left
              · intro wz hSw
                obtain ⟨x0, q0, q1⟩ := SH.out wz hSw
                go_simp
                (try with_reducible rfl)
              try simp only [Act.put, List.setIfInBounds_toArray, List.set_cons_zero, List.set_cons_succ]
              refine ord_q (d := some 196) (v := ?_) rfl rfl (Or.inl ⟨by rfl, ?_⟩) ?_
              rotate_left
              · intro wz hSw
                obtain ⟨x0, q0, q1⟩ := SH.out wz hSw
                go_simp
                (try with_reducible rfl)
              try simp only [Act.put, List.setIfInBounds_toArray, List.set_cons_zero, List.set_cons_succ]
              refine ord_q (d := some 197) (v := ?_) rfl rfl (Or.inl ⟨by rfl, ?_⟩) ?_
              rotate_left
              · intro wz hSw
                obtain ⟨x0, q0, q1⟩ := SH.out wz hSw
                go_simp
                (try with_reducible rfl)
              try simp only [Act.put, List.setIfInBounds_toArray, List.set_cons_zero, List.set_cons_succ]
              refine ord_q (d := some 198) (v := ?_) rfl rfl (Or.inl ⟨by rfl, ?_⟩) ?_
              rotate_left
              · intro wz hSw
                obtain ⟨x0, q0, q1⟩ := SH.out wz hSw
                go_simp
                (try with_reducible rfl)
              try simp only [Act.put, List.setIfInBounds_toArray, List.set_cons_zero, List.set_cons_succ]
              refine ord_q (d := some 200) (v := ?_) rfl rfl (Or.inl ⟨by rfl, ?_⟩) ?_
              rotate_left
              · intro wz hSw
                obtain ⟨x0, q0, q1⟩ := SH.out wz hSw
                go_simp
                (try with_reducible rfl)
              try simp only [Act.put, List.setIfInBounds_toArray, List.set_cons_zero, List.set_cons_succ]
              refine ord_q (d := some 201) (v := ?_) rfl rfl (Or.inl ⟨by rfl, ?_⟩) ?_
              rotate_left
              · intro wz hSw
                obtain ⟨x0, q0, q1⟩ := SH.out wz hSw
                go_simp
                (try with_reducible rfl)
              try simp only [Act.put, List.setIfInBounds_toArray, List.set_cons_zero, List.set_cons_succ]
              refine ord_q (d := some 202) (v := ?_) rfl rfl (Or.inl ⟨by rfl, ?_⟩) ?_
              rotate_left
              · intro wz hSw
                obtain ⟨x0, q0, q1⟩ := SH.out wz hSw
                go_simp
                (try with_reducible rfl)
              try simp only [Act.put, List.setIfInBounds_toArray, List.set_cons_zero, List.set_cons_succ]
              refine ord_q (d := some 203) (v := ?_) rfl rfl (Or.inl ⟨by rfl, ?_⟩) ?_
              rotate_left
              · intro wz hSw
                obtain ⟨x0, q0, q1⟩ := SH.out wz hSw
                go_simp
                (try with_reducible rfl)
              try simp only [Act.put, List.setIfInBounds_toArray, List.set_cons_zero, List.set_cons_succ]
              refine ord_q (d := some 204) (v := ?_) rfl rfl (Or.inl ⟨by rfl, ?_⟩) ?_
              rotate_left
              · intro wz hSw
                obtain ⟨x0, q0, q1⟩ := SH.out wz hSw
                go_simp
                (try with_reducible rfl)
              try simp only [Act.put, List.setIfInBounds_toArray, List.set_cons_zero, List.set_cons_succ]
              refine ord_l ?_
              refine wpOp_step rfl (fun K' hK => ?_)
              have HK := Lib.hid hK
              clear hK
              rw [if_pos (by rfl)]
              go_simp
              refine (can20b qn w11 (P5.out.call S3) hl11 hal).mono ?_
              rintro e w12 ⟨rfl, hb12⟩
              have S4 := S3.trans (hb12.mono S3.size)
              rw [hcanE]
              refine HK.out _ _ ⟨S4, ?_⟩
              clear HK
              try change OrdW _ _ _ _ _ (Act.put _ (some 199) _) _
              try simp only [Act.put, List.setIfInBounds_toArray, List.set_cons_zero, List.set_cons_succ]
              refine ord_q (d := some 205) (v := ?_) rfl rfl (Or.inl ⟨by rfl, ?_⟩) ?_
              rotate_left
              · intro wz hSw
                obtain ⟨x0, q0, q1⟩ := SH.out wz hSw
                go_simp
                (try with_reducible rfl)
              try simp only [Act.put, List.setIfInBounds_toArray, List.set_cons_zero, List.set_cons_succ]
              refine ord_q (d := some 206) (v := undef) rfl rfl (Or.inr ⟨by kernel_rfl, rfl⟩) ?_
              try simp only [Act.put, List.setIfInBounds_toArray, List.set_cons_zero, List.set_cons_succ]
              refine ord_q (d := some 207) (v := undef) rfl rfl (Or.inr ⟨by kernel_rfl, rfl⟩) ?_
              try simp only [Act.put, List.setIfInBounds_toArray, List.set_cons_zero, List.set_cons_succ]
              refine ord_q (d := some 208) (v := undef) rfl rfl (Or.inr ⟨by kernel_rfl, rfl⟩) ?_
              try simp only [Act.put, List.setIfInBounds_toArray, List.set_cons_zero, List.set_cons_succ]
              refine ord_q (d := some 209) (v := undef) rfl rfl (Or.inr ⟨by kernel_rfl, rfl⟩) ?_
              try simp only [Act.put, List.setIfInBounds_toArray, List.set_cons_zero, List.set_cons_succ]
              refine ord_q (d := some 210) (v := undef) rfl rfl (Or.inr ⟨by kernel_rfl, rfl⟩) ?_
              try simp only [Act.put, List.setIfInBounds_toArray, List.set_cons_zero, List.set_cons_succ]
              refine ord_q (d := some 211) (v := undef) rfl rfl (Or.inr ⟨by kernel_rfl, rfl⟩) ?_
              try simp only [Act.put, List.setIfInBounds_toArray, List.set_cons_zero, List.set_cons_succ]
              refine ord_q (d := some 212) (v := undef) rfl rfl (Or.inr ⟨by kernel_rfl, rfl⟩) ?_
              try simp only [Act.put, List.setIfInBounds_toArray, List.set_cons_zero, List.set_cons_succ]
              refine ord_q (d := some 213) (v := undef) rfl rfl (Or.inr ⟨by kernel_rfl, rfl⟩) ?_
              try simp only [Act.put, List.setIfInBounds_toArray, List.set_cons_zero, List.set_cons_succ]
              refine ord_q (d := some 214) (v := ?_) rfl rfl (Or.inl ⟨by rfl, ?_⟩) ?_
              rotate_left
              · intro wz hSw
                obtain ⟨x0, q0, q1⟩ := SH.out wz hSw
                go_simp
                (try with_reducible rfl)
              try simp only [Act.put, List.setIfInBounds_toArray, List.set_cons_zero, List.set_cons_succ]
              refine ord_q (d := some 215) (v := ?_) rfl rfl (Or.inl ⟨by rfl, ?_⟩) ?_
              rotate_left
              · intro wz hSw
                obtain ⟨x0, q0, q1⟩ := SH.out wz hSw
                go_simp
                (try with_reducible rfl)
              try simp only [Act.put, List.setIfInBounds_toArray, List.set_cons_zero, List.set_cons_succ]
              refine ord_q (d := some 216) (v := ?_) rfl rfl (Or.inl ⟨by rfl, ?_⟩) ?_
              rotate_left
              · intro wz hSw
                obtain ⟨x0, q0, q1⟩ := SH.out wz hSw
                go_simp
                (try with_reducible rfl)
              try simp only [Act.put, List.setIfInBounds_toArray, List.set_cons_zero, List.set_cons_succ]
              refine ord_nil ?_
              go_wp2_with fail
              go_roundw
              case rel => exact ⟨k + 1, b, T, c, g, last, a, by omega, by go_num, rfl, rfl, rfl, Lib.hid (S5.out.call S4)⟩
              case measure => simp [intOf]; omega
    · by_cases hkn : k < n
      · have d0 : (k : Int) < (n : Int) := by omega
        have d1 : ¬ (k : Int) < 40 := by omega
        go_wp2_with fail
        refine (runs3 wr).mono ?_
        rintro e w5 ⟨rfl, hb5⟩
        go_wp2
        go_ret
        exact ⟨rfl, SS.out.below.trans (hb5.mono SS.out.below.size)⟩
      · have d0 : ¬ (k : Int) < (n : Int) := by omega
        go_wp2_with fail
        refine (runs3 wr).mono ?_
        rintro e w5 ⟨rfl, hb5⟩
        go_wp2
        go_ret
        exact ⟨rfl, SS.out.below.trans (hb5.mono SS.out.below.size)⟩
end Go.Proofs.Ytbkhlmnonjkelaa
