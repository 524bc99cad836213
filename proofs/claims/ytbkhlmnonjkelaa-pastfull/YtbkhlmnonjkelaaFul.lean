/-
  The walk of PastFull.
-/
import Derived.Test.YtbkhlmnonjkelaaAid
namespace Go.Proofs.Ytbkhlmnonjkelaa
open Go.RowKit Go.PlainAid
set_option maxRecDepth 100000

set_option maxHeartbeats 64000000 in
theorem full7 (bk x : Int) (s : ByteArray) (w : World) (hx : U64 x) :
    Calls Try.prog 7 #[.string s, .int .i64 bk, .int .u64 x] w fun e w' => e = .returned (.bool true) ∧ Below w.heap.size w w' := by
  go_enter Try.func7, Try.ntmps7
  go_wp2_with fail
  refine (new8 s w).mono ?_
  rintro e w1 ⟨b, rfl, hb, h1, B1⟩
  generalize newE s = g1 at *
  go_wp2_with fail
  go_loopw [8] (fun i wr => ∃ (i0 : Nat) (g : Nat → En), i0 ≤ 11 ∧ i = .int .i64 ((i0 : Int) + 1) ∧ Pc wr b g i0 i0 ∧ Below w.heap.size w wr) (fun i _ => 13 - (intOf i).toNat)
  case atStart => exact ⟨0, g1, by omega, rfl, h1, B1⟩
  case round =>
    obtain ⟨i0, g, hi0, rfl, hg, hbw⟩ := hrel
    clear h1 B1
    by_cases hlt : i0 < 11
    · have d0 : (i0 : Int) + 1 < 12 := by omega
      obtain ⟨s1, hcv⟩ := one_text wr (97 + ((i0 : Int) + 1))
      have h3 := hg.alloc (.cells #[.int .u8 (97 + ((i0 : Int) + 1))] 5 (0, 0))
      have B3 := hbw.alloc hbw.size (.cells #[.int .u8 (97 + ((i0 : Int) + 1))] 5 (0, 0))
      go_wp2_with fail
      generalize wr.alloc (.cells #[.int .u8 (97 + ((i0 : Int) + 1))] 5 (0, 0)) = w3 at *
      clear hg hbw hcv
      refine (push9_ok s1 w3 h3 (by omega)).mono ?_
      rintro e w4 ⟨rfl, h4⟩
      have B4 := h4.below B3 B3.size hb
      replace h4 := h4.1
      go_wp2_with fail
      go_roundw
      case rel => exact ⟨i0 + 1, _, by omega, by go_num, h4, B4⟩
      case measure => simp [intOf]; omega
    · obtain rfl : i0 = 11 := by omega
      clear hlt hi0
      go_wp2_with fail
      refine (entries12 wr hg (Nat.le_refl _)).mono ?_
      rintro e w3 ⟨v, rfl, hv⟩
      have hW : Ex b w3 v (lis g 12) := hv.ex hg.lt
      obtain ⟨A, c, rfl, hcap⟩ := hW.shape
      have B3 := hbw.trans (hv.2.1.mono hbw.size)
      have h3 := hg.call hv.2.1
      clear hv hg hbw
      have WAS3 := Lib.hid hW
      clear hW
      go_wp2_with fail
      refine (push9_full _ w3 h3).mono ?_
      rintro e w4 ⟨rfl, rfl⟩
      go_wp2_with fail
      refine (entries12 w4 h3 (Nat.le_refl _)).mono ?_
      rintro e w5 ⟨v2, rfl, hv2⟩
      have B5 := B3.trans (hv2.2.1.mono B3.size)
      have h5 := h3.call hv2.2.1
      have WAS5 := Lib.hid (WAS3.out.call hv2.2.1)
      have N2 := Lib.hid hv2.es
      clear hv2 h3 B3 WAS3
      go_wp2_with fail
      refine (same11 v2 _ _ _ w5 N2.out WAS5.out.1 (by rw [lis_len]; omega)).mono ?_
      rintro e w6 ⟨rfl, hb6⟩
      have B6 := B5.trans (hb6.mono B5.size)
      have h6 := h5.call hb6
      have WAS6 := Lib.hid (WAS5.out.call hb6)
      clear h5 B5 WAS5 hb6 N2
      rw [show decide (lis g 12 = lis g 12) = true by simp]
      go_wp2_with fail
      refine (within_any bk 1 11 w6 (by omega) (by omega) (by omega)).mono ?_
      rintro e w7 ⟨⟨r0, hr0, hr1, rfl⟩, rfl⟩
      obtain ⟨q, hq⟩ : ∃ q : Nat, (q : Int) + r0 = 11 := ⟨(11 - r0).toNat, by omega⟩
      go_wp2_with fail
      refine (scroll15 x w6 h6 (by omega) hx).mono ?_
      rintro e w8 ⟨rfl, h8⟩
      have B8 := h8.below B6 B6.size hb
      have WAS8 := Lib.hid (WAS6.out.kp h8.2)
      replace h8 := h8.1
      have G8 : ∀ i, i < 11 → putE g 11 ((g 11).1, clI x) i = g i := fun i hi => by unfold putE; rw [if_neg (by omega)]
      generalize putE g 11 ((g 11).1, clI x) = g8 at *
      clear h6 B6 WAS6
      go_wp2_with fail
      refine (go10_yes (-r0) q w8 h8 (by omega) (by omega) (by simp [canB]; omega) (by omega)).mono ?_
      rintro e w9 ⟨rfl, h9⟩
      have B9 := h9.below B8 B8.size hb
      have WAS9 := Lib.hid (WAS8.out.kp h9.2)
      replace h9 := h9.1
      clear h8 B8 WAS8
      have h10 := h9.alloc (.cells #[.string (g8 q).1, .int .u64 (g8 q).2] 28 (0, 0))
      have B10 := B9.alloc B9.size (.cells #[.string (g8 q).1, .int .u64 (g8 q).2] 28 (0, 0))
      have WAS10 := Lib.hid (WAS9.out.call ((Below.refl _ w9).alloc (Nat.le_refl _) (.cells #[.string (g8 q).1, .int .u64 (g8 q).2] 28 (0, 0))))
      clear h9 B9 WAS9
      go_wp2_with fail
      generalize w9.alloc (.cells #[.string (g8 q).1, .int .u64 (g8 q).2] 28 (0, 0)) = w10 at *
      generalize w9.heap.size = T1 at *
      refine (push9_ok ⟨#[110, 101, 119]⟩ w10 h10 (by omega)).mono ?_
      rintro e w11 ⟨rfl, h11⟩
      have B11 := h11.below B10 B10.size hb
      have WAS11 := Lib.hid (WAS10.out.kp h11.2)
      replace h11 := h11.1
      have G11 : ∀ i, i < q + 1 → putE (cutE g8 (q + 1)) (q + 1) (⟨#[110, 101, 119]⟩, 0) i = g i := fun i hi => (pushE0 g8 (q + 1) i _ hi).trans (G8 i (by omega))
      have E11 := pushE1 g8 (q + 1) (⟨#[110, 101, 119]⟩, 0)
      generalize putE (cutE g8 (q + 1)) (q + 1) (⟨#[110, 101, 119]⟩, 0) = g11 at *
      clear h10 B10 WAS10 G8
      go_wp2_with fail
      refine (entries12 w11 h11 (by omega)).mono ?_
      rintro e w12 ⟨v3, rfl, hv3⟩
      have NOW12 := Lib.hid (hv3.ex h11.lt)
      obtain ⟨A3, c3, rfl, hcap3⟩ := NOW12.out.shape
      have B12 := B11.trans (hv3.2.1.mono B11.size)
      have h12 := h11.call hv3.2.1
      have WAS12 := Lib.hid (WAS11.out.call hv3.2.1)
      clear hv3 h11 B11 WAS11
      have i1 : (12 : Int) - r0 = (q : Int) + 1 := by omega
      go_wp2_with fail
      obtain ⟨D, o, rfl, hcn⟩ := ex_cells NOW12.out (by omega)
      obtain ⟨x0, x1⟩ := hcn (q + 1) (by omega)
      rw [E11] at x0 x1
      clear hcn
      have i2 : ((q : Int) + 1).toNat = q + 1 := by omega
      have i3 : (q : Int) + 1 < (q : Int) + 1 + 1 := by omega
      have i4 : (q : Int) + 1 ≤ (c3 : Int) := by omega
      have i5 : (q : Int) + 1 ≤ (c : Int) := by omega
      have i6 : IntKind.i64.wrap ((q : Int) + 1 + 1) = (q : Int) + 1 + 1 := IntWalk.i64_in _ (by omega)
      have i7 : (0 : Int) ≤ (q : Int) + 1 := by omega
      have i8 : IntKind.i64.wrap (-((q : Int) + 1)) = -((q : Int) + 1) := IntWalk.i64_in _ (by omega)
      have SS : ∀ W, Below w12.heap.size w12 W → W.cell? ⟨D, o + (q + 1) * 2, none⟩ = some (.string ⟨#[110, 101, 119]⟩) ∧ W.cell? ⟨D, o + (q + 1) * 2 + 1, none⟩ = some (.int .u64 0) := by
        intro W hW
        have k : ∀ (p : Addr) (v : Value), w12.cell? p = some v → W.cell? p = some v := fun p v hc => by rw [hW.cell (World.block_lt_of_cell? _ _ hc)]; exact hc
        exact ⟨k _ _ x0, k _ _ x1⟩
      have SH := Lib.hid SS
      clear SS x0 x1
      refine wp_region_ord ((true, 0) :: (true, 1) :: (true, 2) :: (true, 3) :: (true, 4) :: (true, 5) :: (true, 6) :: (true, 8) :: (false, 7) :: (true, 9) :: (true, 10) :: (true, 11) :: (true, 12) :: (true, 13) :: (true, 14) :: (true, 15) :: (true, 16) :: (true, 17) :: (true, 18) :: (true, 19) :: (true, 20) :: (true, 21) :: (true, 22) :: (true, 23) :: (true, 24) :: (true, 25) :: (false, 26) :: (true, 27) :: (true, 28) :: (true, 29) :: (false, 30) :: (true, 31) :: (true, 32) :: (true, 33) :: (true, 34) :: (true, 35) :: (true, 36) :: (false, 37) :: (true, 38) :: (true, 39) :: (false, 40) :: (true, 41) :: (true, 42) :: []) (fun W => Below w12.heap.size w12 W) (by kernel_rfl) (by kernel_rfl) (by decide) (by kernel_rfl) (fun d _ _ _ _ h => by cases d <;> exact h) ((Below.refl _ w12).drew) ?_
      have S0 : Below w12.heap.size w12 w12.drew := (Below.refl _ w12).drew
      generalize w12.drew = wd at S0 ⊢
      refine ord_q (d := some 71) (v := ?_) rfl rfl (Or.inl ⟨by rfl, ?_⟩) ?_
      rotate_left
      · intro wz hSw
        obtain ⟨x0, x1⟩ := SH.out wz hSw
        go_simp
        (try with_reducible rfl)
      try simp only [Act.put, List.setIfInBounds_toArray, List.set_cons_zero, List.set_cons_succ]
      refine ord_q (d := some 72) (v := ?_) rfl rfl (Or.inl ⟨by rfl, ?_⟩) ?_
      rotate_left
      · intro wz hSw
        obtain ⟨x0, x1⟩ := SH.out wz hSw
        go_simp
        (try with_reducible rfl)
      try simp only [Act.put, List.setIfInBounds_toArray, List.set_cons_zero, List.set_cons_succ]
      refine ord_q (d := some 73) (v := ?_) rfl rfl (Or.inl ⟨by rfl, ?_⟩) ?_
      rotate_left
      · intro wz hSw
        obtain ⟨x0, x1⟩ := SH.out wz hSw
        go_simp
        (try with_reducible rfl)
      try simp only [Act.put, List.setIfInBounds_toArray, List.set_cons_zero, List.set_cons_succ]
      refine ord_q (d := some 74) (v := ?_) rfl rfl (Or.inl ⟨by rfl, ?_⟩) ?_
      rotate_left
      · intro wz hSw
        obtain ⟨x0, x1⟩ := SH.out wz hSw
        go_simp
        (try with_reducible rfl)
      try simp only [Act.put, List.setIfInBounds_toArray, List.set_cons_zero, List.set_cons_succ]
      refine ord_q (d := some 75) (v := ?_) rfl rfl (Or.inl ⟨by rfl, ?_⟩) ?_
      rotate_left
      · intro wz hSw
        obtain ⟨x0, x1⟩ := SH.out wz hSw
        go_simp
        (try with_reducible rfl)
      try simp only [Act.put, List.setIfInBounds_toArray, List.set_cons_zero, List.set_cons_succ]
      refine ord_q (d := some 76) (v := ?_) rfl rfl (Or.inl ⟨by rfl, ?_⟩) ?_
      rotate_left
      · intro wz hSw
        obtain ⟨x0, x1⟩ := SH.out wz hSw
        go_simp
        (try with_reducible rfl)
      try simp only [Act.put, List.setIfInBounds_toArray, List.set_cons_zero, List.set_cons_succ]
      refine ord_q (d := some 77) (v := ?_) rfl rfl (Or.inl ⟨by rfl, ?_⟩) ?_
      rotate_left
      · intro wz hSw
        obtain ⟨x0, x1⟩ := SH.out wz hSw
        go_simp
        (try with_reducible rfl)
      try simp only [Act.put, List.setIfInBounds_toArray, List.set_cons_zero, List.set_cons_succ]
      refine ord_q (d := some 79) (v := ?_) rfl rfl (Or.inl ⟨by rfl, ?_⟩) ?_
      rotate_left
      · intro wz hSw
        obtain ⟨x0, x1⟩ := SH.out wz hSw
        go_simp
        (try with_reducible rfl)
      try simp only [Act.put, List.setIfInBounds_toArray, List.set_cons_zero, List.set_cons_succ]
      refine ord_l ?_
      refine wpOp_step rfl (fun K' hK => ?_)
      have HK := Lib.hid hK
      clear hK
      rw [if_pos (by rfl)]
      go_simp
      refine (at13 wd (h12.call S0)).mono ?_
      rintro e w13 ⟨rfl, rfl⟩
      refine HK.out _ _ ⟨S0, ?_⟩
      clear HK
      try change OrdW _ _ _ _ _ (Act.put _ (some 78) _) _
      try simp only [Act.put, List.setIfInBounds_toArray, List.set_cons_zero, List.set_cons_succ]
      refine ord_q (d := some 80) (v := ?_) rfl rfl (Or.inl ⟨by rfl, ?_⟩) ?_
      rotate_left
      · intro wz hSw
        obtain ⟨x0, x1⟩ := SH.out wz hSw
        go_simp
        (try with_reducible rfl)
      try simp only [Act.put, List.setIfInBounds_toArray, List.set_cons_zero, List.set_cons_succ]
      refine ord_q (d := some 81) (v := ?_) rfl rfl (Or.inl ⟨by rfl, ?_⟩) ?_
      rotate_left
      · intro wz hSw
        obtain ⟨x0, x1⟩ := SH.out wz hSw
        go_simp
        (try with_reducible rfl)
      try simp only [Act.put, List.setIfInBounds_toArray, List.set_cons_zero, List.set_cons_succ]
      refine ord_q (d := some 82) (v := ?_) rfl rfl (Or.inl ⟨by rfl, ?_⟩) ?_
      rotate_left
      · intro wz hSw
        obtain ⟨x0, x1⟩ := SH.out wz hSw
        go_simp
        (try with_reducible rfl)
      try simp only [Act.put, List.setIfInBounds_toArray, List.set_cons_zero, List.set_cons_succ]
      refine ord_q (d := some 83) (v := ?_) rfl rfl (Or.inl ⟨by rfl, ?_⟩) ?_
      rotate_left
      · intro wz hSw
        obtain ⟨x0, x1⟩ := SH.out wz hSw
        go_simp
        (try with_reducible rfl)
      try simp only [Act.put, List.setIfInBounds_toArray, List.set_cons_zero, List.set_cons_succ]
      refine ord_q (d := some 84) (v := ?_) rfl rfl (Or.inl ⟨by rfl, ?_⟩) ?_
      rotate_left
      · intro wz hSw
        obtain ⟨x0, x1⟩ := SH.out wz hSw
        go_simp
        (try with_reducible rfl)
      try simp only [Act.put, List.setIfInBounds_toArray, List.set_cons_zero, List.set_cons_succ]
      refine ord_q (d := some 85) (v := ?_) rfl rfl (Or.inl ⟨by rfl, ?_⟩) ?_
      rotate_left
      · intro wz hSw
        obtain ⟨x0, x1⟩ := SH.out wz hSw
        go_simp
        (try with_reducible rfl)
      try simp only [Act.put, List.setIfInBounds_toArray, List.set_cons_zero, List.set_cons_succ]
      refine ord_q (d := some 86) (v := ?_) rfl rfl (Or.inl ⟨by rfl, ?_⟩) ?_
      rotate_left
      · intro wz hSw
        obtain ⟨x0, x1⟩ := SH.out wz hSw
        go_simp
        (try with_reducible rfl)
      try simp only [Act.put, List.setIfInBounds_toArray, List.set_cons_zero, List.set_cons_succ]
      refine ord_q (d := some 87) (v := ?_) rfl rfl (Or.inl ⟨by rfl, ?_⟩) ?_
      rotate_left
      · intro wz hSw
        obtain ⟨x0, x1⟩ := SH.out wz hSw
        go_simp
        (try with_reducible rfl)
      try simp only [Act.put, List.setIfInBounds_toArray, List.set_cons_zero, List.set_cons_succ]
      refine ord_q (d := some 88) (v := ?_) rfl rfl (Or.inl ⟨by rfl, ?_⟩) ?_
      rotate_left
      · intro wz hSw
        obtain ⟨x0, x1⟩ := SH.out wz hSw
        go_simp
        (try with_reducible rfl)
      try simp only [Act.put, List.setIfInBounds_toArray, List.set_cons_zero, List.set_cons_succ]
      refine ord_q (d := some 89) (v := ?_) rfl rfl (Or.inl ⟨by rfl, ?_⟩) ?_
      rotate_left
      · intro wz hSw
        obtain ⟨x0, x1⟩ := SH.out wz hSw
        go_simp
        (try with_reducible rfl)
      try simp only [Act.put, List.setIfInBounds_toArray, List.set_cons_zero, List.set_cons_succ]
      refine ord_q (d := some 90) (v := ?_) rfl rfl (Or.inl ⟨by rfl, ?_⟩) ?_
      rotate_left
      · intro wz hSw
        obtain ⟨x0, x1⟩ := SH.out wz hSw
        go_simp
        (try with_reducible rfl)
      try simp only [Act.put, List.setIfInBounds_toArray, List.set_cons_zero, List.set_cons_succ]
      refine ord_q (d := some 91) (v := ?_) rfl rfl (Or.inl ⟨by rfl, ?_⟩) ?_
      rotate_left
      · intro wz hSw
        obtain ⟨x0, x1⟩ := SH.out wz hSw
        go_simp
        (try with_reducible rfl)
      try simp only [Act.put, List.setIfInBounds_toArray, List.set_cons_zero, List.set_cons_succ]
      refine ord_q (d := some 92) (v := ?_) rfl rfl (Or.inl ⟨by rfl, ?_⟩) ?_
      rotate_left
      · intro wz hSw
        obtain ⟨x0, x1⟩ := SH.out wz hSw
        go_simp
        (try with_reducible rfl)
      try simp only [Act.put, List.setIfInBounds_toArray, List.set_cons_zero, List.set_cons_succ]
      refine ord_q (d := some 93) (v := ?_) rfl rfl (Or.inl ⟨by rfl, ?_⟩) ?_
      rotate_left
      · intro wz hSw
        obtain ⟨x0, x1⟩ := SH.out wz hSw
        go_simp
        (try with_reducible rfl)
      try simp only [Act.put, List.setIfInBounds_toArray, List.set_cons_zero, List.set_cons_succ]
      refine ord_q (d := some 94) (v := ?_) rfl rfl (Or.inl ⟨by rfl, ?_⟩) ?_
      rotate_left
      · intro wz hSw
        obtain ⟨x0, x1⟩ := SH.out wz hSw
        go_simp
        (try with_reducible rfl)
      try simp only [Act.put, List.setIfInBounds_toArray, List.set_cons_zero, List.set_cons_succ]
      refine ord_q (d := some 95) (v := ?_) rfl rfl (Or.inl ⟨by rfl, ?_⟩) ?_
      rotate_left
      · intro wz hSw
        obtain ⟨x0, x1⟩ := SH.out wz hSw
        go_simp
        (try with_reducible rfl)
      try simp only [Act.put, List.setIfInBounds_toArray, List.set_cons_zero, List.set_cons_succ]
      refine ord_q (d := some 96) (v := ?_) rfl rfl (Or.inl ⟨by rfl, ?_⟩) ?_
      rotate_left
      · intro wz hSw
        obtain ⟨x0, x1⟩ := SH.out wz hSw
        go_simp
        (try with_reducible rfl)
      try simp only [Act.put, List.setIfInBounds_toArray, List.set_cons_zero, List.set_cons_succ]
      refine ord_l ?_
      refine wpOp_step rfl (fun K' hK => ?_)
      have HK := Lib.hid hK
      clear hK
      rw [if_pos (by rfl)]
      go_simp
      refine (same11 _ _ _ _ wd ((NOW12.out.call S0).take (q + 1) (by omega)).1 ((WAS12.out.call S0).take (q + 1) (by omega)).1 (by rw [lis_len]; omega)).mono ?_
      rintro e w14 ⟨rfl, hb14⟩
      have S1 := S0.trans (hb14.mono S0.size)
      rw [show decide (lis g11 (q + 1) = lis g (q + 1)) = true by rw [lis_congr G11]; simp]
      refine HK.out _ _ ⟨S1, ?_⟩
      clear HK
      try change OrdW _ _ _ _ _ (Act.put _ (some 97) _) _
      try simp only [Act.put, List.setIfInBounds_toArray, List.set_cons_zero, List.set_cons_succ]
      refine ord_q (d := some 98) (v := ?_) rfl rfl (Or.inl ⟨by rfl, ?_⟩) ?_
      rotate_left
      · intro wz hSw
        obtain ⟨x0, x1⟩ := SH.out wz hSw
        go_simp
        (try with_reducible rfl)
      try simp only [Act.put, List.setIfInBounds_toArray, List.set_cons_zero, List.set_cons_succ]
      refine ord_q (d := some 99) (v := ?_) rfl rfl (Or.inl ⟨by rfl, ?_⟩) ?_
      rotate_left
      · intro wz hSw
        obtain ⟨x0, x1⟩ := SH.out wz hSw
        go_simp
        (try with_reducible rfl)
      try simp only [Act.put, List.setIfInBounds_toArray, List.set_cons_zero, List.set_cons_succ]
      refine ord_q (d := some 100) (v := ?_) rfl rfl (Or.inl ⟨by rfl, ?_⟩) ?_
      rotate_left
      · intro wz hSw
        obtain ⟨x0, x1⟩ := SH.out wz hSw
        go_simp
        (try with_reducible rfl)
      try simp only [Act.put, List.setIfInBounds_toArray, List.set_cons_zero, List.set_cons_succ]
      refine ord_l ?_
      refine wpOp_step rfl (fun K' hK => ?_)
      have HK := Lib.hid hK
      clear hK
      rw [if_pos (by rfl)]
      go_simp
      refine (can20b 1 w14 (h12.call S1) (by omega) (Nat.le_refl _)).mono ?_
      rintro e w15 ⟨rfl, hb15⟩
      have S2 := S1.trans (hb15.mono S1.size)
      rw [show canB (q + 1) (q + 1) 1 = false by simp [canB]]
      refine HK.out _ _ ⟨S2, ?_⟩
      clear HK
      try change OrdW _ _ _ _ _ (Act.put _ (some 101) _) _
      try simp only [Act.put, List.setIfInBounds_toArray, List.set_cons_zero, List.set_cons_succ]
      refine ord_q (d := some 102) (v := ?_) rfl rfl (Or.inl ⟨by rfl, ?_⟩) ?_
      rotate_left
      · intro wz hSw
        obtain ⟨x0, x1⟩ := SH.out wz hSw
        go_simp
        (try with_reducible rfl)
      try simp only [Act.put, List.setIfInBounds_toArray, List.set_cons_zero, List.set_cons_succ]
      refine ord_q (d := some 103) (v := ?_) rfl rfl (Or.inl ⟨by rfl, ?_⟩) ?_
      rotate_left
      · intro wz hSw
        obtain ⟨x0, x1⟩ := SH.out wz hSw
        go_simp
        (try with_reducible rfl)
      try simp only [Act.put, List.setIfInBounds_toArray, List.set_cons_zero, List.set_cons_succ]
      refine ord_q (d := some 104) (v := ?_) rfl rfl (Or.inl ⟨by rfl, ?_⟩) ?_
      rotate_left
      · intro wz hSw
        obtain ⟨x0, x1⟩ := SH.out wz hSw
        go_simp
        (try with_reducible rfl)
      try simp only [Act.put, List.setIfInBounds_toArray, List.set_cons_zero, List.set_cons_succ]
      refine ord_q (d := some 105) (v := ?_) rfl rfl (Or.inl ⟨by rfl, ?_⟩) ?_
      rotate_left
      · intro wz hSw
        obtain ⟨x0, x1⟩ := SH.out wz hSw
        go_simp
        (try with_reducible rfl)
      try simp only [Act.put, List.setIfInBounds_toArray, List.set_cons_zero, List.set_cons_succ]
      refine ord_q (d := some 106) (v := ?_) rfl rfl (Or.inl ⟨by rfl, ?_⟩) ?_
      rotate_left
      · intro wz hSw
        obtain ⟨x0, x1⟩ := SH.out wz hSw
        go_simp
        (try with_reducible rfl)
      try simp only [Act.put, List.setIfInBounds_toArray, List.set_cons_zero, List.set_cons_succ]
      refine ord_q (d := some 107) (v := ?_) rfl rfl (Or.inl ⟨by rfl, ?_⟩) ?_
      rotate_left
      · intro wz hSw
        obtain ⟨x0, x1⟩ := SH.out wz hSw
        go_simp
        (try with_reducible rfl)
      try simp only [Act.put, List.setIfInBounds_toArray, List.set_cons_zero, List.set_cons_succ]
      refine ord_l ?_
      refine wpOp_step rfl (fun K' hK => ?_)
      have HK := Lib.hid hK
      clear hK
      rw [if_pos (by rfl)]
      go_simp
      refine (can20b (-((q : Int) + 1)) w15 (h12.call S2) (by omega) (Nat.le_refl _)).mono ?_
      rintro e w16 ⟨rfl, hb16⟩
      have S3 := S2.trans (hb16.mono S2.size)
      rw [show canB (q + 1) (q + 1) (-((q : Int) + 1)) = true by simp [canB]; omega]
      refine HK.out _ _ ⟨S3, ?_⟩
      clear HK
      try change OrdW _ _ _ _ _ (Act.put _ (some 108) _) _
      try simp only [Act.put, List.setIfInBounds_toArray, List.set_cons_zero, List.set_cons_succ]
      refine ord_q (d := some 109) (v := ?_) rfl rfl (Or.inl ⟨by rfl, ?_⟩) ?_
      rotate_left
      · intro wz hSw
        obtain ⟨x0, x1⟩ := SH.out wz hSw
        go_simp
        (try with_reducible rfl)
      try simp only [Act.put, List.setIfInBounds_toArray, List.set_cons_zero, List.set_cons_succ]
      refine ord_q (d := some 110) (v := ?_) rfl rfl (Or.inl ⟨by rfl, ?_⟩) ?_
      rotate_left
      · intro wz hSw
        obtain ⟨x0, x1⟩ := SH.out wz hSw
        go_simp
        (try with_reducible rfl)
      try simp only [Act.put, List.setIfInBounds_toArray, List.set_cons_zero, List.set_cons_succ]
      refine ord_l ?_
      refine wpOp_step rfl (fun K' hK => ?_)
      have HK := Lib.hid hK
      clear hK
      rw [if_pos (by rfl)]
      go_simp
      refine (runs3 w16).mono ?_
      rintro e w17 ⟨rfl, hb17⟩
      have S4 := S3.trans (hb17.mono S3.size)
      refine HK.out _ _ ⟨S4, ?_⟩
      clear HK
      try change OrdW _ _ _ _ _ (Act.put _ (some 111) _) _
      try simp only [Act.put, List.setIfInBounds_toArray, List.set_cons_zero, List.set_cons_succ]
      refine ord_q (d := some 112) (v := ?_) rfl rfl (Or.inl ⟨by rfl, ?_⟩) ?_
      rotate_left
      · intro wz hSw
        obtain ⟨x0, x1⟩ := SH.out wz hSw
        go_simp
        (try with_reducible rfl)
      try simp only [Act.put, List.setIfInBounds_toArray, List.set_cons_zero, List.set_cons_succ]
      refine ord_q (d := some 6) (v := ?_) rfl rfl (Or.inl ⟨by rfl, ?_⟩) ?_
      rotate_left
      · intro wz hSw
        obtain ⟨x0, x1⟩ := SH.out wz hSw
        go_simp
        (try with_reducible rfl)
      try simp only [Act.put, List.setIfInBounds_toArray, List.set_cons_zero, List.set_cons_succ]
      refine ord_nil ?_
      go_wp2
      go_ret
      exact ⟨rfl, B12.trans (S4.mono B12.size)⟩
end Go.Proofs.Ytbkhlmnonjkelaa
