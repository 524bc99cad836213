/-
  The walk of PastThere.
-/
import Derived.Test.YtbkhlmnonjkelaaAid
namespace Go.Proofs.Ytbkhlmnonjkelaa
open Go.RowKit Go.PlainAid
set_option maxRecDepth 100000

set_option maxHeartbeats 64000000 in
theorem there6 (k n m : Int) (s : ByteArray) (w : World) :
    Calls Try.prog 6 #[.int .i64 k, .string s, .int .i64 n, .int .i64 m] w fun e w' => e = .returned (.bool true) ∧ Below w.heap.size w w' := by
  go_enter Try.func6, Try.ntmps6
  go_wp2_with fail
  refine (new8 s w).mono ?_
  rintro e w1 ⟨b, rfl, hb, h1, B1⟩
  generalize newE s = g1 at *
  go_wp2_with fail
  go_loopw [10] (fun i wr => ∃ (i0 : Nat) (g : Nat → En), i0 ≤ 11 ∧ i = .int .i64 i0 ∧ Pc wr b g i0 i0 ∧ Below w.heap.size w wr) (fun i _ => 12 - (intOf i).toNat)
  case atStart => exact ⟨0, g1, by omega, rfl, h1, B1⟩
  case round =>
    obtain ⟨i0, g, hi0, rfl, hg, hbw⟩ := hrel
    clear h1 B1
    go_wp2_with fail
    refine (within_nat k 11 wr (by omega)).mono ?_
    rintro e w2 ⟨⟨r, hr, rfl⟩, rfl⟩
    by_cases hlt : i0 < r
    · have d0 : (i0 : Int) < (r : Int) := by omega
      obtain ⟨s1, hcv⟩ := one_text w2 (97 + i0)
      have h3 := hg.alloc (.cells #[.int .u8 (97 + i0)] 5 (0, 0))
      have B3 := hbw.alloc hbw.size (.cells #[.int .u8 (97 + i0)] 5 (0, 0))
      go_wp2_with fail
      generalize w2.alloc (.cells #[.int .u8 (97 + i0)] 5 (0, 0)) = w3 at *
      clear hg hbw hcv
      refine (push9_ok s1 w3 h3 (by omega)).mono ?_
      rintro e w4 ⟨rfl, h4⟩
      have B4 := h4.below B3 B3.size hb
      replace h4 := h4.1
      go_wp2_with fail
      go_roundw
      case rel => exact ⟨i0 + 1, _, by omega, by go_num, h4, B4⟩
      case measure => simp [intOf]; omega
    · have d0 : ¬ (i0 : Int) < (r : Int) := by omega
      go_wp2_with fail
      clear hlt d0 hr
      refine (entries12 w2 hg hi0).mono ?_
      rintro e w3 ⟨v, rfl, hv⟩
      obtain ⟨A, c, ev, hcap, hnil, hcell⟩ := hv.es
      rw [lis_len] at ev hcap hcell
      have hW : Ex b w3 v (lis g (i0 + 1)) := hv.ex hg.lt
      have B3 := hbw.trans (hv.2.1.mono hbw.size)
      have h3 := hg.call hv.2.1
      subst ev
      clear hv hg hbw hcell hnil
      have WAS := Lib.hid hW
      clear hW
      have hn0 : (((i0 + 1 : Nat) : Int) == 0) = false := by simp; omega
      go_wp2_with fail
      refine (at13 w3 h3).mono ?_
      rintro e w4 ⟨rfl, rfl⟩
      have i1 : (i0 : Int) + 1 - 1 = i0 := by omega
      have n1 : ((i0 : Int) != (i0 : Int)) = false := by simp
      go_wp2_with fail
      refine (within_nat n i0 w3 (by omega)).mono ?_
      rintro e w4 ⟨⟨a, ha, rfl⟩, rfl⟩
      go_wp2_with fail
      refine (within_nat m a w4 (by omega)).mono ?_
      rintro e w5 ⟨⟨z, hz, rfl⟩, rfl⟩
      obtain ⟨q, hq⟩ : ∃ q, q + a = i0 := ⟨i0 - a, by omega⟩
      go_wp2_with fail
      refine (go10_yes (-(a : Int)) q w5 h3 hi0 (Nat.le_refl _) (by simp [canB]; omega) (by omega)).mono ?_
      rintro e w6 ⟨rfl, h6⟩
      have B6 := h6.below B3 B3.size hb
      have WAS6 := Lib.hid (WAS.out.kp h6.2)
      replace h6 := h6.1
      clear h3 B3 WAS
      have hx := blk_new w6 (.cells #[.string (g q).1, .int .u64 (g q).2] 28 (0, 0))
      have h7 := h6.alloc (.cells #[.string (g q).1, .int .u64 (g q).2] 28 (0, 0))
      have B7 := B6.alloc B6.size (.cells #[.string (g q).1, .int .u64 (g q).2] 28 (0, 0))
      have WAS7 := Lib.hid (WAS6.out.call ((Below.refl _ w6).alloc (Nat.le_refl _) (.cells #[.string (g q).1, .int .u64 (g q).2] 28 (0, 0))))
      have ne1 : w6.heap.size ≠ b := by have := h6.lt; omega
      have ge1 : w.heap.size ≤ w6.heap.size := B6.size
      clear h6 B6 WAS6
      go_wp2_with fail
      generalize w6.alloc (.cells #[.string (g q).1, .int .u64 (g q).2] 28 (0, 0)) = w7 at *
      generalize w6.heap.size = T1 at *
      refine (go10_yes z (q + z) w7 h7 hi0 (by omega) (by simp [canB]; omega) (by omega)).mono ?_
      rintro e w8 ⟨rfl, h8⟩
      have B8 := h8.below B7 B7.size hb
      have WAS8 := Lib.hid (WAS7.out.kp h8.2)
      replace hx := (h8.2.block T1 (blk_lt hx) ne1).trans hx
      replace h8 := h8.1
      clear h7 B7 WAS7
      have hx2 := blk_new w8 (.cells #[.string (g (q + z)).1, .int .u64 (g (q + z)).2] 28 (0, 0))
      have h9 := h8.alloc (.cells #[.string (g (q + z)).1, .int .u64 (g (q + z)).2] 28 (0, 0))
      have B9 := B8.alloc B8.size (.cells #[.string (g (q + z)).1, .int .u64 (g (q + z)).2] 28 (0, 0))
      have WAS9 := Lib.hid (WAS8.out.call ((Below.refl _ w8).alloc (Nat.le_refl _) (.cells #[.string (g (q + z)).1, .int .u64 (g (q + z)).2] 28 (0, 0))))
      have ne2 : w8.heap.size ≠ b := by have := h8.lt; omega
      replace hx := blk_alloc hx (.cells #[.string (g (q + z)).1, .int .u64 (g (q + z)).2] 28 (0, 0))
      clear h8 B8 WAS8
      go_wp2_with fail
      generalize w8.alloc (.cells #[.string (g (q + z)).1, .int .u64 (g (q + z)).2] 28 (0, 0)) = w9 at *
      generalize w8.heap.size = T2 at *
      refine (go10_yes ((a : Int) - z) i0 w9 h9 hi0 (by omega) (by simp [canB]; omega) (by omega)).mono ?_
      rintro e w10 ⟨rfl, h10⟩
      have B10 := h10.below B9 B9.size hb
      have WAS10 := Lib.hid (WAS9.out.kp h10.2)
      replace hx := (h10.2.block T1 (blk_lt hx) ne1).trans hx
      replace hx2 := (h10.2.block T2 (blk_lt hx2) ne2).trans hx2
      replace h10 := h10.1
      clear h9 B9 WAS9
      have hx3 := blk_new w10 (.cells #[.string (g (i0)).1, .int .u64 (g (i0)).2] 28 (0, 0))
      have h11 := h10.alloc (.cells #[.string (g (i0)).1, .int .u64 (g (i0)).2] 28 (0, 0))
      have B11 := B10.alloc B10.size (.cells #[.string (g (i0)).1, .int .u64 (g (i0)).2] 28 (0, 0))
      have WAS11 := Lib.hid (WAS10.out.call ((Below.refl _ w10).alloc (Nat.le_refl _) (.cells #[.string (g (i0)).1, .int .u64 (g (i0)).2] 28 (0, 0))))
      have ne3 : w10.heap.size ≠ b := by have := h10.lt; omega
      replace hx := blk_alloc hx (.cells #[.string (g (i0)).1, .int .u64 (g (i0)).2] 28 (0, 0))
      replace hx2 := blk_alloc hx2 (.cells #[.string (g (i0)).1, .int .u64 (g (i0)).2] 28 (0, 0))
      clear h10 B10 WAS10
      go_wp2_with fail
      generalize w10.alloc (.cells #[.string (g (i0)).1, .int .u64 (g (i0)).2] 28 (0, 0)) = w11 at *
      generalize w10.heap.size = T3 at *
      refine (go10_no (-9223372036854775808) w11 h11 hi0 (by omega) (by simp [canB]; omega)).mono ?_
      rintro e w12 ⟨rfl, hb12⟩
      have B12 := B11.trans (hb12.mono B11.size)
      have WAS12 := Lib.hid (WAS11.out.call hb12)
      replace hx := blk_call hx hb12
      replace hx2 := blk_call hx2 hb12
      replace hx3 := blk_call hx3 hb12
      have h12 := h11.call hb12
      clear h11 B11 WAS11 hb12
      have hx4 := blk_new w12 (.cells #[.string ⟨#[]⟩, .int .u64 0] 28 (0, 0))
      have h13 := h12.alloc (.cells #[.string ⟨#[]⟩, .int .u64 0] 28 (0, 0))
      have B13 := B12.alloc B12.size (.cells #[.string ⟨#[]⟩, .int .u64 0] 28 (0, 0))
      have WAS13 := Lib.hid (WAS12.out.call ((Below.refl _ w12).alloc (Nat.le_refl _) (.cells #[.string ⟨#[]⟩, .int .u64 0] 28 (0, 0))))
      have ne4 : w12.heap.size ≠ b := by have := h12.lt; omega
      replace hx := blk_alloc hx (.cells #[.string ⟨#[]⟩, .int .u64 0] 28 (0, 0))
      replace hx2 := blk_alloc hx2 (.cells #[.string ⟨#[]⟩, .int .u64 0] 28 (0, 0))
      replace hx3 := blk_alloc hx3 (.cells #[.string ⟨#[]⟩, .int .u64 0] 28 (0, 0))
      clear h12 B12 WAS12
      go_wp2_with fail
      generalize w12.alloc (.cells #[.string ⟨#[]⟩, .int .u64 0] 28 (0, 0)) = w13 at *
      generalize w12.heap.size = T4 at *
      refine (go10_no (9223372036854775807) w13 h13 hi0 (by omega) (by simp [canB])).mono ?_
      rintro e w14 ⟨rfl, hb14⟩
      have B14 := B13.trans (hb14.mono B13.size)
      have WAS14 := Lib.hid (WAS13.out.call hb14)
      replace hx := blk_call hx hb14
      replace hx2 := blk_call hx2 hb14
      replace hx3 := blk_call hx3 hb14
      have h14 := h13.call hb14
      clear h13 B13 WAS13 hb14
      have hx5 := blk_new w14 (.cells #[.string ⟨#[]⟩, .int .u64 0] 28 (0, 0))
      have h15 := h14.alloc (.cells #[.string ⟨#[]⟩, .int .u64 0] 28 (0, 0))
      have B15 := B14.alloc B14.size (.cells #[.string ⟨#[]⟩, .int .u64 0] 28 (0, 0))
      have WAS15 := Lib.hid (WAS14.out.call ((Below.refl _ w14).alloc (Nat.le_refl _) (.cells #[.string ⟨#[]⟩, .int .u64 0] 28 (0, 0))))
      have ne5 : w14.heap.size ≠ b := by have := h14.lt; omega
      replace hx := blk_alloc hx (.cells #[.string ⟨#[]⟩, .int .u64 0] 28 (0, 0))
      replace hx2 := blk_alloc hx2 (.cells #[.string ⟨#[]⟩, .int .u64 0] 28 (0, 0))
      replace hx3 := blk_alloc hx3 (.cells #[.string ⟨#[]⟩, .int .u64 0] 28 (0, 0))
      clear h14 B14 WAS14
      go_wp2_with fail
      generalize w14.alloc (.cells #[.string ⟨#[]⟩, .int .u64 0] 28 (0, 0)) = w15 at *
      generalize w14.heap.size = T5 at *
      clear hx4 hx5 ne4 ne5 hn0 n1
      obtain ⟨D, o, eA, hcw⟩ : ∃ D o, A = some ⟨D, o, none⟩ ∧ ∀ j, j < i0 + 1 → w15.cell? ⟨D, o + j * 2, none⟩ = some (.string (g j).1) ∧ w15.cell? ⟨D, o + j * 2 + 1, none⟩ = some (.int .u64 (g j).2) := by
        obtain ⟨⟨A', c', e1, _, _, h4⟩, _⟩ := WAS15.out
        rw [lis_len] at h4 e1
        cases e1
        obtain ⟨D, o, rfl, _⟩ := h4 0 (by omega)
        refine ⟨D, o, rfl, fun j hj => ?_⟩
        obtain ⟨D', o', e2, k1, k2⟩ := h4 j hj
        cases e2
        rw [lis_get g _ j hj] at k1 k2
        exact ⟨k1, k2⟩
      subst eA
      have x0 := blk_cell hx 0
      have x1 := blk_cell hx 1
      have y0 := blk_cell hx2 0
      have y1 := blk_cell hx2 1
      have z0 := blk_cell hx3 0
      have z1 := blk_cell hx3 1
      simp at x0 x1 y0 y1 z0 z1
      obtain ⟨q0, q1⟩ := hcw q (by omega)
      obtain ⟨r0, r1⟩ := hcw (q + z) (by omega)
      obtain ⟨s0, s1⟩ := hcw i0 (by omega)
      clear hcw hx hx2 hx3
      have j1 : (i0 : Int) - (a : Int) = q := by omega
      have j2 : ((q : Int) + (z : Int)).toNat = q + z := by omega
      have j3 : IntKind.i64.wrap (i0 : Int) = i0 := IntWalk.i64_in _ (by omega)
      have j9 : IntKind.i64.wrap (q : Int) = q := IntWalk.i64_in _ (by omega)
      have j6 : (0 : Int) ≤ (q : Int) + z := by omega
      have j7 : (0 : Int) ≤ (q : Int) := by omega
      have j8 : (0 : Int) ≤ (i0 : Int) := by omega
      have j5 : IntKind.i64.wrap ((q : Int) + (z : Int)) = (q : Int) + z := IntWalk.i64_in _ (by omega)
      have l1 : (q : Int) < (i0 : Int) + 1 := by omega
      have l2 : (q : Int) + (z : Int) < (i0 : Int) + 1 := by omega
      have l3 : (i0 : Int) < (i0 : Int) + 1 := by omega
      have SS : ∀ W, Below w15.heap.size w15 W → (W.cell? ⟨T1, 0, none⟩ = some (.string (g q).1) ∧ W.cell? ⟨T1, 1, none⟩ = some (.int .u64 (g q).2) ∧ W.cell? ⟨T2, 0, none⟩ = some (.string (g (q + z)).1) ∧ W.cell? ⟨T2, 1, none⟩ = some (.int .u64 (g (q + z)).2) ∧ W.cell? ⟨T3, 0, none⟩ = some (.string (g i0).1) ∧ W.cell? ⟨T3, 1, none⟩ = some (.int .u64 (g i0).2)) ∧
          (W.cell? ⟨D, o + q * 2, none⟩ = some (.string (g q).1) ∧ W.cell? ⟨D, o + q * 2 + 1, none⟩ = some (.int .u64 (g q).2) ∧ W.cell? ⟨D, o + (q + z) * 2, none⟩ = some (.string (g (q + z)).1) ∧ W.cell? ⟨D, o + (q + z) * 2 + 1, none⟩ = some (.int .u64 (g (q + z)).2) ∧ W.cell? ⟨D, o + i0 * 2, none⟩ = some (.string (g i0).1) ∧ W.cell? ⟨D, o + i0 * 2 + 1, none⟩ = some (.int .u64 (g i0).2)) := by
        intro W hW
        have k : ∀ (p : Addr) (v : Value), w15.cell? p = some v → W.cell? p = some v := fun p v hc => by rw [hW.cell (World.block_lt_of_cell? _ _ hc)]; exact hc
        exact ⟨⟨k _ _ x0, k _ _ x1, k _ _ y0, k _ _ y1, k _ _ z0, k _ _ z1⟩, k _ _ q0, k _ _ q1, k _ _ r0, k _ _ r1, k _ _ s0, k _ _ s1⟩
      have SH := Lib.hid SS
      clear SS x0 x1 y0 y1 z0 z1 q0 q1 r0 r1 s0 s1
      refine wp_region_ord ((true, 0) :: (true, 1) :: (true, 2) :: (true, 3) :: (true, 4) :: (true, 5) :: (true, 6) :: (true, 7) :: (true, 8) :: (true, 9) :: (true, 10) :: (true, 11) :: (true, 12) :: (true, 13) :: (true, 14) :: (true, 15) :: (true, 16) :: (true, 17) :: (true, 18) :: (true, 19) :: (true, 20) :: (true, 21) :: (true, 22) :: (true, 23) :: (true, 24) :: (true, 25) :: (true, 26) :: (true, 27) :: (true, 28) :: (true, 29) :: (true, 30) :: (true, 31) :: (true, 32) :: (true, 33) :: (true, 34) :: (true, 35) :: (true, 36) :: (true, 37) :: (true, 38) :: (true, 39) :: (true, 40) :: (true, 41) :: (true, 42) :: (true, 43) :: (true, 44) :: (true, 45) :: (true, 46) :: (true, 47) :: (true, 48) :: (true, 49) :: (true, 50) :: (true, 51) :: (true, 52) :: (true, 53) :: (true, 54) :: (true, 55) :: (true, 57) :: (false, 56) :: (false, 58) :: (true, 59) :: (true, 60) :: (false, 61) :: (true, 62) :: (true, 63) :: []) (fun W => Below w15.heap.size w15 W) (by kernel_rfl) (by kernel_rfl) (by decide) (by kernel_rfl) (fun d _ _ _ _ h => by cases d <;> exact h) ((Below.refl _ w15).drew) ?_
      have S0 : Below w15.heap.size w15 w15.drew := (Below.refl _ w15).drew
      generalize w15.drew = wd at S0 ⊢
      refine ord_q (d := some 94) (v := ?_) rfl rfl (Or.inl ⟨by rfl, ?_⟩) ?_
      rotate_left
      · intro wz hSw
        obtain ⟨⟨x0, x1, y0, y1, z0, z1⟩, q0, q1, r0, r1, s0, s1⟩ := SH.out wz hSw
        go_simp
        (try with_reducible rfl)
      try simp only [Act.put, List.setIfInBounds_toArray, List.set_cons_zero, List.set_cons_succ]
      refine ord_q (d := some 95) (v := ?_) rfl rfl (Or.inl ⟨by rfl, ?_⟩) ?_
      rotate_left
      · intro wz hSw
        obtain ⟨⟨x0, x1, y0, y1, z0, z1⟩, q0, q1, r0, r1, s0, s1⟩ := SH.out wz hSw
        go_simp
        (try with_reducible rfl)
      try simp only [Act.put, List.setIfInBounds_toArray, List.set_cons_zero, List.set_cons_succ]
      refine ord_q (d := some 96) (v := ?_) rfl rfl (Or.inl ⟨by rfl, ?_⟩) ?_
      rotate_left
      · intro wz hSw
        obtain ⟨⟨x0, x1, y0, y1, z0, z1⟩, q0, q1, r0, r1, s0, s1⟩ := SH.out wz hSw
        go_simp
        (try with_reducible rfl)
      try simp only [Act.put, List.setIfInBounds_toArray, List.set_cons_zero, List.set_cons_succ]
      refine ord_q (d := some 97) (v := ?_) rfl rfl (Or.inl ⟨by rfl, ?_⟩) ?_
      rotate_left
      · intro wz hSw
        obtain ⟨⟨x0, x1, y0, y1, z0, z1⟩, q0, q1, r0, r1, s0, s1⟩ := SH.out wz hSw
        go_simp
        (try with_reducible rfl)
      try simp only [Act.put, List.setIfInBounds_toArray, List.set_cons_zero, List.set_cons_succ]
      refine ord_q (d := some 98) (v := ?_) rfl rfl (Or.inl ⟨by rfl, ?_⟩) ?_
      rotate_left
      · intro wz hSw
        obtain ⟨⟨x0, x1, y0, y1, z0, z1⟩, q0, q1, r0, r1, s0, s1⟩ := SH.out wz hSw
        go_simp
        (try with_reducible rfl)
      try simp only [Act.put, List.setIfInBounds_toArray, List.set_cons_zero, List.set_cons_succ]
      refine ord_q (d := some 99) (v := ?_) rfl rfl (Or.inl ⟨by rfl, ?_⟩) ?_
      rotate_left
      · intro wz hSw
        obtain ⟨⟨x0, x1, y0, y1, z0, z1⟩, q0, q1, r0, r1, s0, s1⟩ := SH.out wz hSw
        go_simp
        (try with_reducible rfl)
      try simp only [Act.put, List.setIfInBounds_toArray, List.set_cons_zero, List.set_cons_succ]
      refine ord_q (d := some 100) (v := ?_) rfl rfl (Or.inl ⟨by rfl, ?_⟩) ?_
      rotate_left
      · intro wz hSw
        obtain ⟨⟨x0, x1, y0, y1, z0, z1⟩, q0, q1, r0, r1, s0, s1⟩ := SH.out wz hSw
        go_simp
        (try with_reducible rfl)
      try simp only [Act.put, List.setIfInBounds_toArray, List.set_cons_zero, List.set_cons_succ]
      refine ord_q (d := some 101) (v := ?_) rfl rfl (Or.inl ⟨by rfl, ?_⟩) ?_
      rotate_left
      · intro wz hSw
        obtain ⟨⟨x0, x1, y0, y1, z0, z1⟩, q0, q1, r0, r1, s0, s1⟩ := SH.out wz hSw
        go_simp
        (try with_reducible rfl)
      try simp only [Act.put, List.setIfInBounds_toArray, List.set_cons_zero, List.set_cons_succ]
      refine ord_q (d := some 102) (v := ?_) rfl rfl (Or.inl ⟨by rfl, ?_⟩) ?_
      rotate_left
      · intro wz hSw
        obtain ⟨⟨x0, x1, y0, y1, z0, z1⟩, q0, q1, r0, r1, s0, s1⟩ := SH.out wz hSw
        go_simp
        (try with_reducible rfl)
      try simp only [Act.put, List.setIfInBounds_toArray, List.set_cons_zero, List.set_cons_succ]
      refine ord_q (d := some 103) (v := ?_) rfl rfl (Or.inl ⟨by rfl, ?_⟩) ?_
      rotate_left
      · intro wz hSw
        obtain ⟨⟨x0, x1, y0, y1, z0, z1⟩, q0, q1, r0, r1, s0, s1⟩ := SH.out wz hSw
        go_simp
        (try with_reducible rfl)
      try simp only [Act.put, List.setIfInBounds_toArray, List.set_cons_zero, List.set_cons_succ]
      refine ord_q (d := some 104) (v := ?_) rfl rfl (Or.inl ⟨by rfl, ?_⟩) ?_
      rotate_left
      · intro wz hSw
        obtain ⟨⟨x0, x1, y0, y1, z0, z1⟩, q0, q1, r0, r1, s0, s1⟩ := SH.out wz hSw
        go_simp
        (try with_reducible rfl)
      try simp only [Act.put, List.setIfInBounds_toArray, List.set_cons_zero, List.set_cons_succ]
      refine ord_q (d := some 105) (v := ?_) rfl rfl (Or.inl ⟨by rfl, ?_⟩) ?_
      rotate_left
      · intro wz hSw
        obtain ⟨⟨x0, x1, y0, y1, z0, z1⟩, q0, q1, r0, r1, s0, s1⟩ := SH.out wz hSw
        go_simp
        (try with_reducible rfl)
      try simp only [Act.put, List.setIfInBounds_toArray, List.set_cons_zero, List.set_cons_succ]
      refine ord_q (d := some 106) (v := ?_) rfl rfl (Or.inl ⟨by rfl, ?_⟩) ?_
      rotate_left
      · intro wz hSw
        obtain ⟨⟨x0, x1, y0, y1, z0, z1⟩, q0, q1, r0, r1, s0, s1⟩ := SH.out wz hSw
        go_simp
        (try with_reducible rfl)
      try simp only [Act.put, List.setIfInBounds_toArray, List.set_cons_zero, List.set_cons_succ]
      refine ord_q (d := some 107) (v := ?_) rfl rfl (Or.inl ⟨by rfl, ?_⟩) ?_
      rotate_left
      · intro wz hSw
        obtain ⟨⟨x0, x1, y0, y1, z0, z1⟩, q0, q1, r0, r1, s0, s1⟩ := SH.out wz hSw
        go_simp
        (try with_reducible rfl)
      try simp only [Act.put, List.setIfInBounds_toArray, List.set_cons_zero, List.set_cons_succ]
      refine ord_q (d := some 108) (v := ?_) rfl rfl (Or.inl ⟨by rfl, ?_⟩) ?_
      rotate_left
      · intro wz hSw
        obtain ⟨⟨x0, x1, y0, y1, z0, z1⟩, q0, q1, r0, r1, s0, s1⟩ := SH.out wz hSw
        go_simp
        (try with_reducible rfl)
      try simp only [Act.put, List.setIfInBounds_toArray, List.set_cons_zero, List.set_cons_succ]
      refine ord_q (d := some 109) (v := ?_) rfl rfl (Or.inl ⟨by rfl, ?_⟩) ?_
      rotate_left
      · intro wz hSw
        obtain ⟨⟨x0, x1, y0, y1, z0, z1⟩, q0, q1, r0, r1, s0, s1⟩ := SH.out wz hSw
        go_simp
        (try with_reducible rfl)
      try simp only [Act.put, List.setIfInBounds_toArray, List.set_cons_zero, List.set_cons_succ]
      refine ord_q (d := some 110) (v := ?_) rfl rfl (Or.inl ⟨by rfl, ?_⟩) ?_
      rotate_left
      · intro wz hSw
        obtain ⟨⟨x0, x1, y0, y1, z0, z1⟩, q0, q1, r0, r1, s0, s1⟩ := SH.out wz hSw
        go_simp
        (try with_reducible rfl)
      try simp only [Act.put, List.setIfInBounds_toArray, List.set_cons_zero, List.set_cons_succ]
      refine ord_q (d := some 111) (v := ?_) rfl rfl (Or.inl ⟨by rfl, ?_⟩) ?_
      rotate_left
      · intro wz hSw
        obtain ⟨⟨x0, x1, y0, y1, z0, z1⟩, q0, q1, r0, r1, s0, s1⟩ := SH.out wz hSw
        go_simp
        (try with_reducible rfl)
      try simp only [Act.put, List.setIfInBounds_toArray, List.set_cons_zero, List.set_cons_succ]
      refine ord_q (d := some 112) (v := ?_) rfl rfl (Or.inl ⟨by rfl, ?_⟩) ?_
      rotate_left
      · intro wz hSw
        obtain ⟨⟨x0, x1, y0, y1, z0, z1⟩, q0, q1, r0, r1, s0, s1⟩ := SH.out wz hSw
        go_simp
        (try with_reducible rfl)
      try simp only [Act.put, List.setIfInBounds_toArray, List.set_cons_zero, List.set_cons_succ]
      refine ord_q (d := some 113) (v := ?_) rfl rfl (Or.inl ⟨by rfl, ?_⟩) ?_
      rotate_left
      · intro wz hSw
        obtain ⟨⟨x0, x1, y0, y1, z0, z1⟩, q0, q1, r0, r1, s0, s1⟩ := SH.out wz hSw
        go_simp
        (try with_reducible rfl)
      try simp only [Act.put, List.setIfInBounds_toArray, List.set_cons_zero, List.set_cons_succ]
      refine ord_q (d := some 114) (v := ?_) rfl rfl (Or.inl ⟨by rfl, ?_⟩) ?_
      rotate_left
      · intro wz hSw
        obtain ⟨⟨x0, x1, y0, y1, z0, z1⟩, q0, q1, r0, r1, s0, s1⟩ := SH.out wz hSw
        go_simp
        (try with_reducible rfl)
      try simp only [Act.put, List.setIfInBounds_toArray, List.set_cons_zero, List.set_cons_succ]
      refine ord_q (d := some 115) (v := ?_) rfl rfl (Or.inl ⟨by rfl, ?_⟩) ?_
      rotate_left
      · intro wz hSw
        obtain ⟨⟨x0, x1, y0, y1, z0, z1⟩, q0, q1, r0, r1, s0, s1⟩ := SH.out wz hSw
        go_simp
        (try with_reducible rfl)
      try simp only [Act.put, List.setIfInBounds_toArray, List.set_cons_zero, List.set_cons_succ]
      refine ord_q (d := some 116) (v := ?_) rfl rfl (Or.inl ⟨by rfl, ?_⟩) ?_
      rotate_left
      · intro wz hSw
        obtain ⟨⟨x0, x1, y0, y1, z0, z1⟩, q0, q1, r0, r1, s0, s1⟩ := SH.out wz hSw
        go_simp
        (try with_reducible rfl)
      try simp only [Act.put, List.setIfInBounds_toArray, List.set_cons_zero, List.set_cons_succ]
      refine ord_q (d := some 117) (v := ?_) rfl rfl (Or.inl ⟨by rfl, ?_⟩) ?_
      rotate_left
      · intro wz hSw
        obtain ⟨⟨x0, x1, y0, y1, z0, z1⟩, q0, q1, r0, r1, s0, s1⟩ := SH.out wz hSw
        go_simp
        (try with_reducible rfl)
      try simp only [Act.put, List.setIfInBounds_toArray, List.set_cons_zero, List.set_cons_succ]
      refine ord_q (d := some 118) (v := ?_) rfl rfl (Or.inl ⟨by rfl, ?_⟩) ?_
      rotate_left
      · intro wz hSw
        obtain ⟨⟨x0, x1, y0, y1, z0, z1⟩, q0, q1, r0, r1, s0, s1⟩ := SH.out wz hSw
        go_simp
        (try with_reducible rfl)
      try simp only [Act.put, List.setIfInBounds_toArray, List.set_cons_zero, List.set_cons_succ]
      refine ord_q (d := some 119) (v := ?_) rfl rfl (Or.inl ⟨by rfl, ?_⟩) ?_
      rotate_left
      · intro wz hSw
        obtain ⟨⟨x0, x1, y0, y1, z0, z1⟩, q0, q1, r0, r1, s0, s1⟩ := SH.out wz hSw
        go_simp
        (try with_reducible rfl)
      try simp only [Act.put, List.setIfInBounds_toArray, List.set_cons_zero, List.set_cons_succ]
      refine ord_q (d := some 120) (v := ?_) rfl rfl (Or.inl ⟨by rfl, ?_⟩) ?_
      rotate_left
      · intro wz hSw
        obtain ⟨⟨x0, x1, y0, y1, z0, z1⟩, q0, q1, r0, r1, s0, s1⟩ := SH.out wz hSw
        go_simp
        (try with_reducible rfl)
      try simp only [Act.put, List.setIfInBounds_toArray, List.set_cons_zero, List.set_cons_succ]
      refine ord_q (d := some 121) (v := ?_) rfl rfl (Or.inl ⟨by rfl, ?_⟩) ?_
      rotate_left
      · intro wz hSw
        obtain ⟨⟨x0, x1, y0, y1, z0, z1⟩, q0, q1, r0, r1, s0, s1⟩ := SH.out wz hSw
        go_simp
        (try with_reducible rfl)
      try simp only [Act.put, List.setIfInBounds_toArray, List.set_cons_zero, List.set_cons_succ]
      refine ord_q (d := some 122) (v := ?_) rfl rfl (Or.inl ⟨by rfl, ?_⟩) ?_
      rotate_left
      · intro wz hSw
        obtain ⟨⟨x0, x1, y0, y1, z0, z1⟩, q0, q1, r0, r1, s0, s1⟩ := SH.out wz hSw
        go_simp
        (try with_reducible rfl)
      try simp only [Act.put, List.setIfInBounds_toArray, List.set_cons_zero, List.set_cons_succ]
      refine ord_q (d := some 123) (v := ?_) rfl rfl (Or.inl ⟨by rfl, ?_⟩) ?_
      rotate_left
      · intro wz hSw
        obtain ⟨⟨x0, x1, y0, y1, z0, z1⟩, q0, q1, r0, r1, s0, s1⟩ := SH.out wz hSw
        go_simp
        (try with_reducible rfl)
      try simp only [Act.put, List.setIfInBounds_toArray, List.set_cons_zero, List.set_cons_succ]
      refine ord_q (d := some 124) (v := ?_) rfl rfl (Or.inl ⟨by rfl, ?_⟩) ?_
      rotate_left
      · intro wz hSw
        obtain ⟨⟨x0, x1, y0, y1, z0, z1⟩, q0, q1, r0, r1, s0, s1⟩ := SH.out wz hSw
        go_simp
        (try with_reducible rfl)
      try simp only [Act.put, List.setIfInBounds_toArray, List.set_cons_zero, List.set_cons_succ]
      refine ord_q (d := some 125) (v := ?_) rfl rfl (Or.inl ⟨by rfl, ?_⟩) ?_
      rotate_left
      · intro wz hSw
        obtain ⟨⟨x0, x1, y0, y1, z0, z1⟩, q0, q1, r0, r1, s0, s1⟩ := SH.out wz hSw
        go_simp
        (try with_reducible rfl)
      try simp only [Act.put, List.setIfInBounds_toArray, List.set_cons_zero, List.set_cons_succ]
      refine ord_q (d := some 126) (v := ?_) rfl rfl (Or.inl ⟨by rfl, ?_⟩) ?_
      rotate_left
      · intro wz hSw
        obtain ⟨⟨x0, x1, y0, y1, z0, z1⟩, q0, q1, r0, r1, s0, s1⟩ := SH.out wz hSw
        go_simp
        (try with_reducible rfl)
      try simp only [Act.put, List.setIfInBounds_toArray, List.set_cons_zero, List.set_cons_succ]
      refine ord_q (d := some 127) (v := ?_) rfl rfl (Or.inl ⟨by rfl, ?_⟩) ?_
      rotate_left
      · intro wz hSw
        obtain ⟨⟨x0, x1, y0, y1, z0, z1⟩, q0, q1, r0, r1, s0, s1⟩ := SH.out wz hSw
        go_simp
        (try with_reducible rfl)
      try simp only [Act.put, List.setIfInBounds_toArray, List.set_cons_zero, List.set_cons_succ]
      refine ord_q (d := some 128) (v := ?_) rfl rfl (Or.inl ⟨by rfl, ?_⟩) ?_
      rotate_left
      · intro wz hSw
        obtain ⟨⟨x0, x1, y0, y1, z0, z1⟩, q0, q1, r0, r1, s0, s1⟩ := SH.out wz hSw
        go_simp
        (try with_reducible rfl)
      try simp only [Act.put, List.setIfInBounds_toArray, List.set_cons_zero, List.set_cons_succ]
      refine ord_q (d := some 129) (v := ?_) rfl rfl (Or.inl ⟨by rfl, ?_⟩) ?_
      rotate_left
      · intro wz hSw
        obtain ⟨⟨x0, x1, y0, y1, z0, z1⟩, q0, q1, r0, r1, s0, s1⟩ := SH.out wz hSw
        go_simp
        (try with_reducible rfl)
      try simp only [Act.put, List.setIfInBounds_toArray, List.set_cons_zero, List.set_cons_succ]
      refine ord_q (d := some 130) (v := ?_) rfl rfl (Or.inl ⟨by rfl, ?_⟩) ?_
      rotate_left
      · intro wz hSw
        obtain ⟨⟨x0, x1, y0, y1, z0, z1⟩, q0, q1, r0, r1, s0, s1⟩ := SH.out wz hSw
        go_simp
        (try with_reducible rfl)
      try simp only [Act.put, List.setIfInBounds_toArray, List.set_cons_zero, List.set_cons_succ]
      refine ord_q (d := some 131) (v := ?_) rfl rfl (Or.inl ⟨by rfl, ?_⟩) ?_
      rotate_left
      · intro wz hSw
        obtain ⟨⟨x0, x1, y0, y1, z0, z1⟩, q0, q1, r0, r1, s0, s1⟩ := SH.out wz hSw
        go_simp
        (try with_reducible rfl)
      try simp only [Act.put, List.setIfInBounds_toArray, List.set_cons_zero, List.set_cons_succ]
      refine ord_q (d := some 132) (v := ?_) rfl rfl (Or.inl ⟨by rfl, ?_⟩) ?_
      rotate_left
      · intro wz hSw
        obtain ⟨⟨x0, x1, y0, y1, z0, z1⟩, q0, q1, r0, r1, s0, s1⟩ := SH.out wz hSw
        go_simp
        (try with_reducible rfl)
      try simp only [Act.put, List.setIfInBounds_toArray, List.set_cons_zero, List.set_cons_succ]
      refine ord_q (d := some 133) (v := ?_) rfl rfl (Or.inl ⟨by rfl, ?_⟩) ?_
      rotate_left
      · intro wz hSw
        obtain ⟨⟨x0, x1, y0, y1, z0, z1⟩, q0, q1, r0, r1, s0, s1⟩ := SH.out wz hSw
        go_simp
        (try with_reducible rfl)
      try simp only [Act.put, List.setIfInBounds_toArray, List.set_cons_zero, List.set_cons_succ]
      refine ord_q (d := some 134) (v := ?_) rfl rfl (Or.inl ⟨by rfl, ?_⟩) ?_
      rotate_left
      · intro wz hSw
        obtain ⟨⟨x0, x1, y0, y1, z0, z1⟩, q0, q1, r0, r1, s0, s1⟩ := SH.out wz hSw
        go_simp
        (try with_reducible rfl)
      try simp only [Act.put, List.setIfInBounds_toArray, List.set_cons_zero, List.set_cons_succ]
      refine ord_q (d := some 135) (v := ?_) rfl rfl (Or.inl ⟨by rfl, ?_⟩) ?_
      rotate_left
      · intro wz hSw
        obtain ⟨⟨x0, x1, y0, y1, z0, z1⟩, q0, q1, r0, r1, s0, s1⟩ := SH.out wz hSw
        go_simp
        (try with_reducible rfl)
      try simp only [Act.put, List.setIfInBounds_toArray, List.set_cons_zero, List.set_cons_succ]
      refine ord_q (d := some 136) (v := ?_) rfl rfl (Or.inl ⟨by rfl, ?_⟩) ?_
      rotate_left
      · intro wz hSw
        obtain ⟨⟨x0, x1, y0, y1, z0, z1⟩, q0, q1, r0, r1, s0, s1⟩ := SH.out wz hSw
        go_simp
        (try with_reducible rfl)
      try simp only [Act.put, List.setIfInBounds_toArray, List.set_cons_zero, List.set_cons_succ]
      refine ord_q (d := some 137) (v := ?_) rfl rfl (Or.inl ⟨by rfl, ?_⟩) ?_
      rotate_left
      · intro wz hSw
        obtain ⟨⟨x0, x1, y0, y1, z0, z1⟩, q0, q1, r0, r1, s0, s1⟩ := SH.out wz hSw
        go_simp
        (try with_reducible rfl)
      try simp only [Act.put, List.setIfInBounds_toArray, List.set_cons_zero, List.set_cons_succ]
      refine ord_q (d := some 138) (v := ?_) rfl rfl (Or.inl ⟨by rfl, ?_⟩) ?_
      rotate_left
      · intro wz hSw
        obtain ⟨⟨x0, x1, y0, y1, z0, z1⟩, q0, q1, r0, r1, s0, s1⟩ := SH.out wz hSw
        go_simp
        (try with_reducible rfl)
      try simp only [Act.put, List.setIfInBounds_toArray, List.set_cons_zero, List.set_cons_succ]
      refine ord_q (d := some 139) (v := ?_) rfl rfl (Or.inl ⟨by rfl, ?_⟩) ?_
      rotate_left
      · intro wz hSw
        obtain ⟨⟨x0, x1, y0, y1, z0, z1⟩, q0, q1, r0, r1, s0, s1⟩ := SH.out wz hSw
        go_simp
        (try with_reducible rfl)
      try simp only [Act.put, List.setIfInBounds_toArray, List.set_cons_zero, List.set_cons_succ]
      refine ord_q (d := some 140) (v := ?_) rfl rfl (Or.inl ⟨by rfl, ?_⟩) ?_
      rotate_left
      · intro wz hSw
        obtain ⟨⟨x0, x1, y0, y1, z0, z1⟩, q0, q1, r0, r1, s0, s1⟩ := SH.out wz hSw
        go_simp
        (try with_reducible rfl)
      try simp only [Act.put, List.setIfInBounds_toArray, List.set_cons_zero, List.set_cons_succ]
      refine ord_q (d := some 141) (v := ?_) rfl rfl (Or.inl ⟨by rfl, ?_⟩) ?_
      rotate_left
      · intro wz hSw
        obtain ⟨⟨x0, x1, y0, y1, z0, z1⟩, q0, q1, r0, r1, s0, s1⟩ := SH.out wz hSw
        go_simp
        (try with_reducible rfl)
      try simp only [Act.put, List.setIfInBounds_toArray, List.set_cons_zero, List.set_cons_succ]
      refine ord_q (d := some 142) (v := ?_) rfl rfl (Or.inl ⟨by rfl, ?_⟩) ?_
      rotate_left
      · intro wz hSw
        obtain ⟨⟨x0, x1, y0, y1, z0, z1⟩, q0, q1, r0, r1, s0, s1⟩ := SH.out wz hSw
        go_simp
        (try with_reducible rfl)
      try simp only [Act.put, List.setIfInBounds_toArray, List.set_cons_zero, List.set_cons_succ]
      refine ord_q (d := some 143) (v := ?_) rfl rfl (Or.inl ⟨by rfl, ?_⟩) ?_
      rotate_left
      · intro wz hSw
        obtain ⟨⟨x0, x1, y0, y1, z0, z1⟩, q0, q1, r0, r1, s0, s1⟩ := SH.out wz hSw
        go_simp
        (try with_reducible rfl)
      try simp only [Act.put, List.setIfInBounds_toArray, List.set_cons_zero, List.set_cons_succ]
      refine ord_q (d := some 144) (v := ?_) rfl rfl (Or.inl ⟨by rfl, ?_⟩) ?_
      rotate_left
      · intro wz hSw
        obtain ⟨⟨x0, x1, y0, y1, z0, z1⟩, q0, q1, r0, r1, s0, s1⟩ := SH.out wz hSw
        go_simp
        (try with_reducible rfl)
      try simp only [Act.put, List.setIfInBounds_toArray, List.set_cons_zero, List.set_cons_succ]
      refine ord_q (d := some 145) (v := ?_) rfl rfl (Or.inl ⟨by rfl, ?_⟩) ?_
      rotate_left
      · intro wz hSw
        obtain ⟨⟨x0, x1, y0, y1, z0, z1⟩, q0, q1, r0, r1, s0, s1⟩ := SH.out wz hSw
        go_simp
        (try with_reducible rfl)
      try simp only [Act.put, List.setIfInBounds_toArray, List.set_cons_zero, List.set_cons_succ]
      refine ord_q (d := some 146) (v := ?_) rfl rfl (Or.inl ⟨by rfl, ?_⟩) ?_
      rotate_left
      · intro wz hSw
        obtain ⟨⟨x0, x1, y0, y1, z0, z1⟩, q0, q1, r0, r1, s0, s1⟩ := SH.out wz hSw
        go_simp
        (try with_reducible rfl)
      try simp only [Act.put, List.setIfInBounds_toArray, List.set_cons_zero, List.set_cons_succ]
      refine ord_q (d := some 147) (v := ?_) rfl rfl (Or.inl ⟨by rfl, ?_⟩) ?_
      rotate_left
      · intro wz hSw
        obtain ⟨⟨x0, x1, y0, y1, z0, z1⟩, q0, q1, r0, r1, s0, s1⟩ := SH.out wz hSw
        go_simp
        (try with_reducible rfl)
      try simp only [Act.put, List.setIfInBounds_toArray, List.set_cons_zero, List.set_cons_succ]
      refine ord_q (d := some 148) (v := ?_) rfl rfl (Or.inl ⟨by rfl, ?_⟩) ?_
      rotate_left
      · intro wz hSw
        obtain ⟨⟨x0, x1, y0, y1, z0, z1⟩, q0, q1, r0, r1, s0, s1⟩ := SH.out wz hSw
        go_simp
        (try with_reducible rfl)
      try simp only [Act.put, List.setIfInBounds_toArray, List.set_cons_zero, List.set_cons_succ]
      refine ord_q (d := some 149) (v := ?_) rfl rfl (Or.inl ⟨by rfl, ?_⟩) ?_
      rotate_left
      · intro wz hSw
        obtain ⟨⟨x0, x1, y0, y1, z0, z1⟩, q0, q1, r0, r1, s0, s1⟩ := SH.out wz hSw
        go_simp
        (try with_reducible rfl)
      try simp only [Act.put, List.setIfInBounds_toArray, List.set_cons_zero, List.set_cons_succ]
      refine ord_q (d := some 151) (v := ?_) rfl rfl (Or.inl ⟨by rfl, ?_⟩) ?_
      rotate_left
      · intro wz hSw
        obtain ⟨⟨x0, x1, y0, y1, z0, z1⟩, q0, q1, r0, r1, s0, s1⟩ := SH.out wz hSw
        go_simp
        (try with_reducible rfl)
      try simp only [Act.put, List.setIfInBounds_toArray, List.set_cons_zero, List.set_cons_succ]
      refine ord_l ?_
      refine wpOp_step rfl (fun K' hK => ?_)
      have HK := Lib.hid hK
      clear hK
      rw [if_pos (by rfl)]
      go_simp
      refine (entries12 wd (h15.call S0) hi0).mono ?_
      rintro e w16 ⟨v16, rfl, hv16⟩
      have S1 := S0.trans (hv16.2.1.mono S0.size)
      refine HK.out _ _ ⟨S1, ?_⟩
      clear HK
      try change OrdW _ _ _ _ _ (Act.put _ (some 150) _) _
      try simp only [Act.put, List.setIfInBounds_toArray, List.set_cons_zero, List.set_cons_succ]
      refine ord_l ?_
      refine wpOp_step rfl (fun K' hK => ?_)
      have HK := Lib.hid hK
      clear hK
      rw [if_pos (by rfl)]
      go_simp
      refine (same11 _ _ _ _ w16 hv16.es (WAS15.out.call S1).1 (by rw [lis_len]; omega)).mono ?_
      rintro e w17 ⟨rfl, hb17⟩
      have S2 := S1.trans (hb17.mono S1.size)
      rw [show decide (lis g (i0 + 1) = lis g (i0 + 1)) = true by simp]
      refine HK.out _ _ ⟨S2, ?_⟩
      clear HK
      try change OrdW _ _ _ _ _ (Act.put _ (some 152) _) _
      try simp only [Act.put, List.setIfInBounds_toArray, List.set_cons_zero, List.set_cons_succ]
      refine ord_q (d := some 153) (v := ?_) rfl rfl (Or.inl ⟨by rfl, ?_⟩) ?_
      rotate_left
      · intro wz hSw
        obtain ⟨⟨x0, x1, y0, y1, z0, z1⟩, q0, q1, r0, r1, s0, s1⟩ := SH.out wz hSw
        go_simp
        (try with_reducible rfl)
      try simp only [Act.put, List.setIfInBounds_toArray, List.set_cons_zero, List.set_cons_succ]
      refine ord_q (d := some 154) (v := ?_) rfl rfl (Or.inl ⟨by rfl, ?_⟩) ?_
      rotate_left
      · intro wz hSw
        obtain ⟨⟨x0, x1, y0, y1, z0, z1⟩, q0, q1, r0, r1, s0, s1⟩ := SH.out wz hSw
        go_simp
        (try with_reducible rfl)
      try simp only [Act.put, List.setIfInBounds_toArray, List.set_cons_zero, List.set_cons_succ]
      refine ord_l ?_
      refine wpOp_step rfl (fun K' hK => ?_)
      have HK := Lib.hid hK
      clear hK
      rw [if_pos (by rfl)]
      go_simp
      refine (runs3 w17).mono ?_
      rintro e w18 ⟨rfl, hb18⟩
      have S3 := S2.trans (hb18.mono S2.size)
      refine HK.out _ _ ⟨S3, ?_⟩
      clear HK
      try change OrdW _ _ _ _ _ (Act.put _ (some 155) _) _
      try simp only [Act.put, List.setIfInBounds_toArray, List.set_cons_zero, List.set_cons_succ]
      refine ord_q (d := some 156) (v := ?_) rfl rfl (Or.inl ⟨by rfl, ?_⟩) ?_
      rotate_left
      · intro wz hSw
        obtain ⟨⟨x0, x1, y0, y1, z0, z1⟩, q0, q1, r0, r1, s0, s1⟩ := SH.out wz hSw
        go_simp
        (try with_reducible rfl)
      try simp only [Act.put, List.setIfInBounds_toArray, List.set_cons_zero, List.set_cons_succ]
      refine ord_q (d := some 8) (v := ?_) rfl rfl (Or.inl ⟨by rfl, ?_⟩) ?_
      rotate_left
      · intro wz hSw
        obtain ⟨⟨x0, x1, y0, y1, z0, z1⟩, q0, q1, r0, r1, s0, s1⟩ := SH.out wz hSw
        go_simp
        (try with_reducible rfl)
      try simp only [Act.put, List.setIfInBounds_toArray, List.set_cons_zero, List.set_cons_succ]
      refine ord_nil ?_
      go_wp2
      go_ret
      exact ⟨rfl, B15.trans (S3.mono B15.size)⟩
end Go.Proofs.Ytbkhlmnonjkelaa
