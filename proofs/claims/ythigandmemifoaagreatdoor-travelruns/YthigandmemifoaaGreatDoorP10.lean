/-
  Put together: Right16.
-/
import Derived.Test.YthigandmemifoaaGreatDoorP07
namespace Go.Proofs.YthigandmemifoaaGreatDoor
open Go.RowKit Go.PlainAid
set_option maxRecDepth 100000

set_option maxHeartbeats 3200000 in
theorem right16 (v : Value) (l : List Sg) (w : World) (h : Gs w v l) :
    Calls Tryz.prog 79 #[v] w fun e w' => e = .returned (.bool (rgB l)) ∧ Below w.heap.size w w' := by
  have HG := Lib.hid h
  obtain ⟨A, cap, rfl, hcap, _, hc⟩ := h
  have HC := Lib.hid hc
  clear hc
  by_cases h8 : l.length ≤ 8
  · have d1 : ¬ (8 : Int) < (l.length : Int) := by omega
    go_enter Tryz.func79, Tryz.ntmps79
    go_wp2_with fail
    go_loopw [11] (fun i wr => ∃ (k : Nat), k ≤ l.length ∧ i = .int .i64 k ∧ (∀ j, j < k → okB l j = true) ∧ Below w.heap.size w wr) (fun i _ => l.length - (intOf i).toNat)
    case atStart => exact ⟨0, Nat.zero_le _, rfl, by simp, Below.refl _ _⟩
    case round =>
      obtain ⟨k, hk, rfl, hall, hbw⟩ := hrel
      have HA := Lib.hid hall
      have HW := Lib.hid hbw
      clear hall hbw
      by_cases hlt : k < l.length
      · have d0 : (k : Int) < (l.length : Int) := by omega
        obtain ⟨x, o, rfl, hcell, hcelb⟩ := HC.out k hlt
        have g1 : wr.cell? ⟨x, o + k * 2, none⟩ = some (.int .i64 (l.getD k default).1) := by rw [HW.out.cell (World.block_lt_of_cell? _ _ hcell)]; exact hcell
        have g3 : wr.cell? ⟨x, o + k * 2 + 1, none⟩ = some (.string (l.getD k default).2) := by rw [HW.out.cell (World.block_lt_of_cell? _ _ hcelb)]; exact hcelb
        have e0 : okB l k = (stB (l.getD k default).1 (decide (k + 1 = l.length)) && (txB (l.getD k default).2 && !twB (l.getD k default) (l.take k))) := rfl
        have E0 := Lib.hid e0
        have HQ := Lib.hid (@rg_not l k hlt)
        have hlast : ((k : Int) == (l.length : Int) - 1) = decide (k + 1 = l.length) := by
          rw [Bool.eq_iff_iff]; simp; omega
        clear hcell hcelb e0
        generalize l.getD k default = s at *
        obtain ⟨s1, s2⟩ := s
        simp only at g1 g3
        generalize hb1 : stB s1 (decide (k + 1 = l.length)) = b1 at *
        generalize hb2 : txB s2 = b2 at *
        generalize hb3 : twB (s1, s2) (l.take k) = b3 at *
        have HB1 := Lib.hid hb1
        have HB2 := Lib.hid hb2
        have HB3 := Lib.hid hb3
        clear hb1 hb2 hb3
        have HX := Lib.hid (blk_new wr (.cells #[.int .i64 s1, .string s2] 28 (0, 0)))
        have HY := Lib.hid (HW.out.alloc HW.out.size (.cells #[.int .i64 s1, .string s2] 28 (0, 0)))
        have HG9 := Lib.hid ((HG.out.call HY.out).take k hk)
        have hq : b1 = false ∨ (b1 = true ∧ b2 = false) ∨ (b1 = true ∧ b2 = true ∧ b3 = true) ∨ (b1 = true ∧ b2 = true ∧ b3 = false) := by
          cases b1 <;> cases b2 <;> cases b3 <;> simp
        have d2 : (k : Int) ≤ (l.length : Int) := by omega
        have d3 : (k : Int) ≤ (cap : Int) := by omega
        go_wp2_with fail
        generalize wr.alloc (.cells #[.int .i64 s1, .string s2] 28) = w9 at *
        have KS : Hid (∀ w' : World, Below w9.heap.size w9 w' → w'.cell? ⟨wr.heap.size, 0, none⟩ = some (.int .i64 s1) ∧ w'.cell? ⟨wr.heap.size, 1, none⟩ = some (.string s2) ∧ Below w9.heap.size w9 w') := by
          intro w' hk
          obtain ⟨a, b, _, _⟩ := blk2 (blk_call HX.out hk)
          exact ⟨a, b, hk⟩
        rcases hq with rfl | ⟨rfl, rfl⟩ | ⟨rfl, rfl, rfl⟩ | ⟨rfl, rfl, rfl⟩
        case inr.inr.inr =>
          go_region_held3 (fun w' => w'.cell? ⟨wr.heap.size, 0, none⟩ = some (.int .i64 s1) ∧ w'.cell? ⟨wr.heap.size, 1, none⟩ = some (.string s2) ∧ Below w9.heap.size w9 w')
            (first | exact KS.out _ ((Below.refl _ _).drew) | exact KS.out _ M3.out)
            (first
              | (go_at_call 92; refine (mayStand36 _ _ _).mono ?_; rintro e w1 ⟨rfl, rfl⟩; rw [HB1.out])
              | (go_at_call 93; refine (isText37 _ _).mono ?_; rintro e w1 ⟨rfl, rfl⟩; rw [HB2.out])
              | (go_at_call 94; refine (isTwice38 _ _ _ (l.take k) _ (HG9.out.call ((Below.refl _ _).drew)) (by simp; omega)).mono ?_; rintro e w1 ⟨rfl, h⟩; rw [HB3.out]; have M3 := Lib.hid (((Below.refl w9.heap.size w9).drew).trans h); clear h))
          go_wp2_with fail
          go_roundw
          case rel => exact ⟨k + 1, by omega, by go_num, fun j hj => (by rcases Nat.lt_succ_iff_lt_or_eq.1 hj with h | rfl; exact HA.out j h; rw [E0.out]; rfl), HY.out.trans (M3.out.mono (HY.out.size))⟩
          case measure => simp [intOf]; omega
        case inr.inr.inl =>
          have E1 := Lib.hid (HQ.out (by rw [E0.out]; rfl))
          go_region_held3 (fun w' => w'.cell? ⟨wr.heap.size, 0, none⟩ = some (.int .i64 s1) ∧ w'.cell? ⟨wr.heap.size, 1, none⟩ = some (.string s2) ∧ Below w9.heap.size w9 w')
            (first | exact KS.out _ ((Below.refl _ _).drew) | exact KS.out _ M3.out)
            (first
              | (go_at_call 92; refine (mayStand36 _ _ _).mono ?_; rintro e w1 ⟨rfl, rfl⟩; rw [HB1.out])
              | (go_at_call 93; refine (isText37 _ _).mono ?_; rintro e w1 ⟨rfl, rfl⟩; rw [HB2.out])
              | (go_at_call 94; refine (isTwice38 _ _ _ (l.take k) _ (HG9.out.call ((Below.refl _ _).drew)) (by simp; omega)).mono ?_; rintro e w1 ⟨rfl, h⟩; rw [HB3.out]; have M3 := Lib.hid (((Below.refl w9.heap.size w9).drew).trans h); clear h))
          go_wp2
          rw [E1.out]
          go_ret
          exact ⟨rfl, HY.out.trans (M3.out.mono (HY.out.size))⟩
        case inr.inl =>
          have E1 := Lib.hid (HQ.out (by rw [E0.out]; rfl))
          have hSd : (fun w' : World => w'.cell? ⟨wr.heap.size, 0, none⟩ = some (.int .i64 s1) ∧ w'.cell? ⟨wr.heap.size, 1, none⟩ = some (.string s2) ∧ Below w9.heap.size w9 w') (World.drew w9) := KS.out _ ((Below.refl _ _).drew)
          refine wp_region_sink (S := fun w' : World => w'.cell? ⟨wr.heap.size, 0, none⟩ = some (.int .i64 s1) ∧ w'.cell? ⟨wr.heap.size, 1, none⟩ = some (.string s2) ∧ Below w9.heap.size w9 w') (n := 1000) (by kernel_rfl) ?_
          change wpSink _ _ _ _ _ 1000 18 _ _ _
          refine sink_take1 (i := 0) (d := some 21) (v := ?_) rfl rfl (by kernel_rfl) (by decide) (by kernel_rfl) (by kernel_rfl) (fun _ _ _ h => h) (Or.inl ⟨by rfl, ?_⟩) hSd ?_
          rotate_left
          · intro wz hSw
            (try dsimp only at hSw)
            obtain ⟨q0, q1, q2⟩ := hSw
            go_simp
            (try with_reducible rfl)
          try simp only [Act.put, List.setIfInBounds_toArray, List.set_cons_zero, List.set_cons_succ]
          refine sink_take1 (i := 1) (d := some 22) (v := ?_) rfl rfl (by kernel_rfl) (by decide) (by kernel_rfl) (by kernel_rfl) (fun _ _ _ h => h) (Or.inl ⟨by rfl, ?_⟩) hSd ?_
          rotate_left
          · intro wz hSw
            (try dsimp only at hSw)
            obtain ⟨q0, q1, q2⟩ := hSw
            go_simp
            (try with_reducible rfl)
          try simp only [Act.put, List.setIfInBounds_toArray, List.set_cons_zero, List.set_cons_succ]
          refine sink_take1 (i := 2) (d := some 23) (v := ?_) rfl rfl (by kernel_rfl) (by decide) (by kernel_rfl) (by kernel_rfl) (fun _ _ _ h => h) (Or.inl ⟨by rfl, ?_⟩) hSd ?_
          rotate_left
          · intro wz hSw
            (try dsimp only at hSw)
            obtain ⟨q0, q1, q2⟩ := hSw
            go_simp
            (try with_reducible rfl)
          try simp only [Act.put, List.setIfInBounds_toArray, List.set_cons_zero, List.set_cons_succ]
          refine sink_one (i := 3) (by kernel_rfl) ?_
          refine wpOp_step rfl (fun K' hK => ?_)
          have HK := Lib.hid hK
          clear hK
          rw [if_pos (by rfl)]
          go_simp
          refine (mayStand36 _ _ _).mono ?_
          rintro e w1 ⟨rfl, rfl⟩
          rw [HB1.out]
          refine HK.out _ _ ⟨Or.inr hSd, ?_⟩
          clear HK
          try simp only [Act.put, List.setIfInBounds_toArray, List.set_cons_zero, List.set_cons_succ]
          refine sink_take1 (i := 4) (d := some 25) (v := ?_) rfl rfl (by kernel_rfl) (by decide) (by kernel_rfl) (by kernel_rfl) (fun _ _ _ h => h) (Or.inl ⟨by rfl, ?_⟩) hSd ?_
          rotate_left
          · intro wz hSw
            (try dsimp only at hSw)
            obtain ⟨q0, q1, q2⟩ := hSw
            go_simp
            (try with_reducible rfl)
          try simp only [Act.put, List.setIfInBounds_toArray, List.set_cons_zero, List.set_cons_succ]
          refine sink_take1 (i := 5) (d := some 26) (v := ?_) rfl rfl (by kernel_rfl) (by decide) (by kernel_rfl) (by kernel_rfl) (fun _ _ _ h => h) (Or.inl ⟨by rfl, ?_⟩) hSd ?_
          rotate_left
          · intro wz hSw
            (try dsimp only at hSw)
            obtain ⟨q0, q1, q2⟩ := hSw
            go_simp
            (try with_reducible rfl)
          try simp only [Act.put, List.setIfInBounds_toArray, List.set_cons_zero, List.set_cons_succ]
          refine sink_take1 (i := 6) (d := some 27) (v := ?_) rfl rfl (by kernel_rfl) (by decide) (by kernel_rfl) (by kernel_rfl) (fun _ _ _ h => h) (Or.inl ⟨by rfl, ?_⟩) hSd ?_
          rotate_left
          · intro wz hSw
            (try dsimp only at hSw)
            obtain ⟨q0, q1, q2⟩ := hSw
            go_simp
            (try with_reducible rfl)
          try simp only [Act.put, List.setIfInBounds_toArray, List.set_cons_zero, List.set_cons_succ]
          refine sink_take1 (i := 7) (d := some 28) (v := ?_) rfl rfl (by kernel_rfl) (by decide) (by kernel_rfl) (by kernel_rfl) (fun _ _ _ h => h) (Or.inl ⟨by rfl, ?_⟩) hSd ?_
          rotate_left
          · intro wz hSw
            (try dsimp only at hSw)
            obtain ⟨q0, q1, q2⟩ := hSw
            go_simp
            (try with_reducible rfl)
          try simp only [Act.put, List.setIfInBounds_toArray, List.set_cons_zero, List.set_cons_succ]
          refine sink_one (i := 8) (by kernel_rfl) ?_
          refine wpOp_step rfl (fun K' hK => ?_)
          have HK := Lib.hid hK
          clear hK
          rw [if_pos (by rfl)]
          go_simp
          refine (isText37 _ _).mono ?_
          rintro e w1 ⟨rfl, rfl⟩
          rw [HB2.out]
          refine HK.out _ _ ⟨Or.inr hSd, ?_⟩
          clear HK
          try simp only [Act.put, List.setIfInBounds_toArray, List.set_cons_zero, List.set_cons_succ]
          refine sink_take1 (i := 9) (d := some 30) (v := ?_) rfl rfl (by kernel_rfl) (by decide) (by kernel_rfl) (by kernel_rfl) (fun _ _ _ h => h) (Or.inl ⟨by rfl, ?_⟩) hSd ?_
          rotate_left
          · intro wz hSw
            (try dsimp only at hSw)
            obtain ⟨q0, q1, q2⟩ := hSw
            go_simp
            (try with_reducible rfl)
          try simp only [Act.put, List.setIfInBounds_toArray, List.set_cons_zero, List.set_cons_succ]
          refine sink_take1 (i := 10) (d := some 31) (v := ?_) rfl rfl (by kernel_rfl) (by decide) (by kernel_rfl) (by kernel_rfl) (fun _ _ _ h => h) (Or.inl ⟨by rfl, ?_⟩) hSd ?_
          rotate_left
          · intro wz hSw
            (try dsimp only at hSw)
            obtain ⟨q0, q1, q2⟩ := hSw
            go_simp
            (try with_reducible rfl)
          try simp only [Act.put, List.setIfInBounds_toArray, List.set_cons_zero, List.set_cons_succ]
          refine sink_take1 (i := 11) (d := some 32) (v := ?_) rfl rfl (by kernel_rfl) (by decide) (by kernel_rfl) (by kernel_rfl) (fun _ _ _ h => h) (Or.inl ⟨by rfl, ?_⟩) hSd ?_
          rotate_left
          · intro wz hSw
            (try dsimp only at hSw)
            obtain ⟨q0, q1, q2⟩ := hSw
            go_simp
            (try with_reducible rfl)
          try simp only [Act.put, List.setIfInBounds_toArray, List.set_cons_zero, List.set_cons_succ]
          refine sink_take1 (i := 12) (d := some 33) (v := undef) rfl rfl (by kernel_rfl) (by decide) (by kernel_rfl) (by kernel_rfl) (fun _ _ _ h => h) (Or.inr ⟨by kernel_rfl, rfl⟩) hSd ?_
          try simp only [Act.put, List.setIfInBounds_toArray, List.set_cons_zero, List.set_cons_succ]
          refine sink_take1 (i := 13) (d := some 34) (v := undef) rfl rfl (by kernel_rfl) (by decide) (by kernel_rfl) (by kernel_rfl) (fun _ _ _ h => h) (Or.inr ⟨by kernel_rfl, rfl⟩) hSd ?_
          try simp only [Act.put, List.setIfInBounds_toArray, List.set_cons_zero, List.set_cons_succ]
          refine sink_take1 (i := 14) (d := some 35) (v := undef) rfl rfl (by kernel_rfl) (by decide) (by kernel_rfl) (by kernel_rfl) (fun _ _ _ h => h) (Or.inr ⟨by kernel_rfl, rfl⟩) hSd ?_
          try simp only [Act.put, List.setIfInBounds_toArray, List.set_cons_zero, List.set_cons_succ]
          refine sink_take1 (i := 15) (d := some 36) (v := undef) rfl rfl (by kernel_rfl) (by decide) (by kernel_rfl) (by kernel_rfl) (fun _ _ _ h => h) (Or.inr ⟨by kernel_rfl, rfl⟩) hSd ?_
          try simp only [Act.put, List.setIfInBounds_toArray, List.set_cons_zero, List.set_cons_succ]
          refine sink_take1 (i := 16) (d := some 37) (v := undef) rfl rfl (by kernel_rfl) (by decide) (by kernel_rfl) (by kernel_rfl) (fun _ _ _ h => h) (Or.inr ⟨by kernel_rfl, rfl⟩) hSd ?_
          try simp only [Act.put, List.setIfInBounds_toArray, List.set_cons_zero, List.set_cons_succ]
          refine sink_take1 (i := 17) (d := some 38) (v := ?_) rfl rfl (by kernel_rfl) (by decide) (by kernel_rfl) (by kernel_rfl) (fun _ _ _ h => h) (Or.inl ⟨by rfl, ?_⟩) hSd ?_
          rotate_left
          · intro wz hSw
            (try dsimp only at hSw)
            obtain ⟨q0, q1, q2⟩ := hSw
            go_simp
            (try with_reducible rfl)
          try simp only [Act.put, List.setIfInBounds_toArray, List.set_cons_zero, List.set_cons_succ]
          refine sink_done (by kernel_rfl) ?_
          clear hSd
          go_wp2
          rw [E1.out]
          go_ret
          exact ⟨rfl, HY.out.trans (((Below.refl _ _).drew).mono (HY.out.size))⟩
        case inl =>
          have E1 := Lib.hid (HQ.out (by rw [E0.out]; rfl))
          have hSd : (fun w' : World => w'.cell? ⟨wr.heap.size, 0, none⟩ = some (.int .i64 s1) ∧ w'.cell? ⟨wr.heap.size, 1, none⟩ = some (.string s2) ∧ Below w9.heap.size w9 w') (World.drew w9) := KS.out _ ((Below.refl _ _).drew)
          refine wp_region_sink (S := fun w' : World => w'.cell? ⟨wr.heap.size, 0, none⟩ = some (.int .i64 s1) ∧ w'.cell? ⟨wr.heap.size, 1, none⟩ = some (.string s2) ∧ Below w9.heap.size w9 w') (n := 1000) (by kernel_rfl) ?_
          change wpSink _ _ _ _ _ 1000 18 _ _ _
          refine sink_take1 (i := 0) (d := some 21) (v := ?_) rfl rfl (by kernel_rfl) (by decide) (by kernel_rfl) (by kernel_rfl) (fun _ _ _ h => h) (Or.inl ⟨by rfl, ?_⟩) hSd ?_
          rotate_left
          · intro wz hSw
            (try dsimp only at hSw)
            obtain ⟨q0, q1, q2⟩ := hSw
            go_simp
            (try with_reducible rfl)
          try simp only [Act.put, List.setIfInBounds_toArray, List.set_cons_zero, List.set_cons_succ]
          refine sink_take1 (i := 1) (d := some 22) (v := ?_) rfl rfl (by kernel_rfl) (by decide) (by kernel_rfl) (by kernel_rfl) (fun _ _ _ h => h) (Or.inl ⟨by rfl, ?_⟩) hSd ?_
          rotate_left
          · intro wz hSw
            (try dsimp only at hSw)
            obtain ⟨q0, q1, q2⟩ := hSw
            go_simp
            (try with_reducible rfl)
          try simp only [Act.put, List.setIfInBounds_toArray, List.set_cons_zero, List.set_cons_succ]
          refine sink_take1 (i := 2) (d := some 23) (v := ?_) rfl rfl (by kernel_rfl) (by decide) (by kernel_rfl) (by kernel_rfl) (fun _ _ _ h => h) (Or.inl ⟨by rfl, ?_⟩) hSd ?_
          rotate_left
          · intro wz hSw
            (try dsimp only at hSw)
            obtain ⟨q0, q1, q2⟩ := hSw
            go_simp
            (try with_reducible rfl)
          try simp only [Act.put, List.setIfInBounds_toArray, List.set_cons_zero, List.set_cons_succ]
          refine sink_one (i := 3) (by kernel_rfl) ?_
          refine wpOp_step rfl (fun K' hK => ?_)
          have HK := Lib.hid hK
          clear hK
          rw [if_pos (by rfl)]
          go_simp
          refine (mayStand36 _ _ _).mono ?_
          rintro e w1 ⟨rfl, rfl⟩
          rw [HB1.out]
          refine HK.out _ _ ⟨Or.inr hSd, ?_⟩
          clear HK
          try simp only [Act.put, List.setIfInBounds_toArray, List.set_cons_zero, List.set_cons_succ]
          refine sink_take1 (i := 4) (d := some 25) (v := ?_) rfl rfl (by kernel_rfl) (by decide) (by kernel_rfl) (by kernel_rfl) (fun _ _ _ h => h) (Or.inl ⟨by rfl, ?_⟩) hSd ?_
          rotate_left
          · intro wz hSw
            (try dsimp only at hSw)
            obtain ⟨q0, q1, q2⟩ := hSw
            go_simp
            (try with_reducible rfl)
          try simp only [Act.put, List.setIfInBounds_toArray, List.set_cons_zero, List.set_cons_succ]
          refine sink_take1 (i := 5) (d := some 26) (v := ?_) rfl rfl (by kernel_rfl) (by decide) (by kernel_rfl) (by kernel_rfl) (fun _ _ _ h => h) (Or.inl ⟨by rfl, ?_⟩) hSd ?_
          rotate_left
          · intro wz hSw
            (try dsimp only at hSw)
            obtain ⟨q0, q1, q2⟩ := hSw
            go_simp
            (try with_reducible rfl)
          try simp only [Act.put, List.setIfInBounds_toArray, List.set_cons_zero, List.set_cons_succ]
          refine sink_take1 (i := 6) (d := some 27) (v := undef) rfl rfl (by kernel_rfl) (by decide) (by kernel_rfl) (by kernel_rfl) (fun _ _ _ h => h) (Or.inr ⟨by kernel_rfl, rfl⟩) hSd ?_
          try simp only [Act.put, List.setIfInBounds_toArray, List.set_cons_zero, List.set_cons_succ]
          refine sink_take1 (i := 7) (d := some 28) (v := undef) rfl rfl (by kernel_rfl) (by decide) (by kernel_rfl) (by kernel_rfl) (fun _ _ _ h => h) (Or.inr ⟨by kernel_rfl, rfl⟩) hSd ?_
          try simp only [Act.put, List.setIfInBounds_toArray, List.set_cons_zero, List.set_cons_succ]
          refine sink_take1 (i := 8) (d := some 29) (v := undef) rfl rfl (by kernel_rfl) (by decide) (by kernel_rfl) (by kernel_rfl) (fun _ _ _ h => h) (Or.inr ⟨by kernel_rfl, rfl⟩) hSd ?_
          try simp only [Act.put, List.setIfInBounds_toArray, List.set_cons_zero, List.set_cons_succ]
          refine sink_take1 (i := 9) (d := some 30) (v := undef) rfl rfl (by kernel_rfl) (by decide) (by kernel_rfl) (by kernel_rfl) (fun _ _ _ h => h) (Or.inr ⟨by kernel_rfl, rfl⟩) hSd ?_
          try simp only [Act.put, List.setIfInBounds_toArray, List.set_cons_zero, List.set_cons_succ]
          refine sink_take1 (i := 10) (d := some 31) (v := ?_) rfl rfl (by kernel_rfl) (by decide) (by kernel_rfl) (by kernel_rfl) (fun _ _ _ h => h) (Or.inl ⟨by rfl, ?_⟩) hSd ?_
          rotate_left
          · intro wz hSw
            (try dsimp only at hSw)
            obtain ⟨q0, q1, q2⟩ := hSw
            go_simp
            (try with_reducible rfl)
          try simp only [Act.put, List.setIfInBounds_toArray, List.set_cons_zero, List.set_cons_succ]
          refine sink_take1 (i := 11) (d := some 32) (v := ?_) rfl rfl (by kernel_rfl) (by decide) (by kernel_rfl) (by kernel_rfl) (fun _ _ _ h => h) (Or.inl ⟨by rfl, ?_⟩) hSd ?_
          rotate_left
          · intro wz hSw
            (try dsimp only at hSw)
            obtain ⟨q0, q1, q2⟩ := hSw
            go_simp
            (try with_reducible rfl)
          try simp only [Act.put, List.setIfInBounds_toArray, List.set_cons_zero, List.set_cons_succ]
          refine sink_take1 (i := 12) (d := some 33) (v := undef) rfl rfl (by kernel_rfl) (by decide) (by kernel_rfl) (by kernel_rfl) (fun _ _ _ h => h) (Or.inr ⟨by kernel_rfl, rfl⟩) hSd ?_
          try simp only [Act.put, List.setIfInBounds_toArray, List.set_cons_zero, List.set_cons_succ]
          refine sink_take1 (i := 13) (d := some 34) (v := undef) rfl rfl (by kernel_rfl) (by decide) (by kernel_rfl) (by kernel_rfl) (fun _ _ _ h => h) (Or.inr ⟨by kernel_rfl, rfl⟩) hSd ?_
          try simp only [Act.put, List.setIfInBounds_toArray, List.set_cons_zero, List.set_cons_succ]
          refine sink_take1 (i := 14) (d := some 35) (v := undef) rfl rfl (by kernel_rfl) (by decide) (by kernel_rfl) (by kernel_rfl) (fun _ _ _ h => h) (Or.inr ⟨by kernel_rfl, rfl⟩) hSd ?_
          try simp only [Act.put, List.setIfInBounds_toArray, List.set_cons_zero, List.set_cons_succ]
          refine sink_take1 (i := 15) (d := some 36) (v := undef) rfl rfl (by kernel_rfl) (by decide) (by kernel_rfl) (by kernel_rfl) (fun _ _ _ h => h) (Or.inr ⟨by kernel_rfl, rfl⟩) hSd ?_
          try simp only [Act.put, List.setIfInBounds_toArray, List.set_cons_zero, List.set_cons_succ]
          refine sink_take1 (i := 16) (d := some 37) (v := undef) rfl rfl (by kernel_rfl) (by decide) (by kernel_rfl) (by kernel_rfl) (fun _ _ _ h => h) (Or.inr ⟨by kernel_rfl, rfl⟩) hSd ?_
          try simp only [Act.put, List.setIfInBounds_toArray, List.set_cons_zero, List.set_cons_succ]
          refine sink_take1 (i := 17) (d := some 38) (v := ?_) rfl rfl (by kernel_rfl) (by decide) (by kernel_rfl) (by kernel_rfl) (fun _ _ _ h => h) (Or.inl ⟨by rfl, ?_⟩) hSd ?_
          rotate_left
          · intro wz hSw
            (try dsimp only at hSw)
            obtain ⟨q0, q1, q2⟩ := hSw
            go_simp
            (try with_reducible rfl)
          try simp only [Act.put, List.setIfInBounds_toArray, List.set_cons_zero, List.set_cons_succ]
          refine sink_done (by kernel_rfl) ?_
          clear hSd
          go_wp2
          rw [E1.out]
          go_ret
          exact ⟨rfl, HY.out.trans (((Below.refl _ _).drew).mono (HY.out.size))⟩
      · obtain rfl : k = l.length := by omega
        have E1 := Lib.hid (rg_yes h8 HA.out)
        go_wp2
        rw [E1.out]
        go_ret
        exact ⟨rfl, HW.out⟩
  · have d1 : (8 : Int) < (l.length : Int) := by omega
    have e0 : rgB l = false := by rw [rgB, decide_eq_false h8]; rfl
    rw [e0]
    go_enter Tryz.func79, Tryz.ntmps79
    go_wp2
    go_ret
    exact ⟨rfl, Below.refl _ _⟩
end Go.Proofs.YthigandmemifoaaGreatDoor
