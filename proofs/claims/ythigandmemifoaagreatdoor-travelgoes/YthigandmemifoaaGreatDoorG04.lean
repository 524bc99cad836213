/-
  the reference's Travel.
-/
import Derived.Test.YthigandmemifoaaGreatDoorG03
namespace Go.Proofs.YthigandmemifoaaGreatDoor
open Go.RowKit Go.PlainAid
set_option maxRecDepth 100000

theorem no2 {A1 A2 : Option Addr} {n1 n2 c1 c2 : Nat} : NoStr #[.slice A1 n1 c1, .slice A2 n2 c2] := by
  intro k s e
  rcases (show k = 0 ∨ k = 1 ∨ 2 ≤ k by omega) with rfl | rfl | h
  all_goals first | (simp at e; done) | (rw [Array.getElem?_eq_none (by simpa using h)] at e; cases e)
set_option maxHeartbeats 25600000 in
theorem refTravel12 (v : Value) (l : List Rc) (s : ByteArray) (fv : Value) (n : Nat) (g : Nat → Bool) (w : World) (h : Rs w v l) (hf : Fit l) (hz : SzR l) (hs : s.size ≤ 10000) (hg : Bs w fv n g) :
    Calls Tryz.prog 12 #[v, fv, .string s] w (GoPost (goS l n g s) w) := by
  have B0 := Lib.hid ((Below.refl w.heap.size w).alloc (Nat.le_refl _) (.cells #[.slice none 0 0, .slice none 0 0, .int .i64 0, .slice none 0 0, .slice none 0 0, .int .i64 0] 50 (0, 0)))
  have X6 := Lib.hid (blk_new w (.cells #[.slice none 0 0, .slice none 0 0, .int .i64 0, .slice none 0 0, .slice none 0 0, .int .i64 0] 50 (0, 0)))
  have HF := Lib.hid hf
  have HZ := Lib.hid hz
  have HS0 := Lib.hid h
  have HG0 := Lib.hid hg
  have HP := Lib.hid (parse14 s (w.alloc (.cells #[.slice none 0 0, .slice none 0 0, .int .i64 0, .slice none 0 0, .slice none 0 0, .int .i64 0] 50 (0, 0))) hs)
  obtain ⟨A, cap, rfl⟩ := h.len
  obtain ⟨Af, cf, rfl⟩ := hg.shape
  obtain ⟨R, hR⟩ : ∃ R, R = goS l n g s := ⟨_, rfl⟩
  rw [← hR]
  have ER := Lib.hid hR
  clear h hg hf hz hR
  go_enter Tryz.func12, Tryz.ntmps12
  go_upto_region 1 with fail
  generalize w.alloc (.cells #[.slice none 0 0, .slice none 0 0, .int .i64 0, .slice none 0 0, .slice none 0 0, .int .i64 0] 50) = w1 at *
  by_cases hpb : parB s = true
  · have PR := Lib.hid (par_right hpb)
    have ER2 : Hid (R = goL l n g 6 (fdB l (parP s)) (fdP l (parP s) (parQ s)) 0) := by show _ = _; rw [ER.out, goS, if_pos hpb]; rfl
    rw [hpb] at HP
    have e0 : erI true = 0 := rfl
    rw [e0] at HP
    clear e0 hpb ER
    generalize parP s = pp at *
    generalize parQ s = qq at *
    go_upto_region 2 with (first | (go_at_call 29; refine HP.out.mono ?_; rintro e w2 ⟨u1, u2, rfl, h1, h2, hb2⟩; have P1 := Lib.hid h1; have P2 := Lib.hid h2; have B2 := Lib.hid hb2; obtain ⟨a1, m1, b1, e1⟩ := h1.shape; obtain ⟨a2, m2, b2, e2⟩ := h2.shape; subst e1 e2; clear h1 h2 hb2))
    have B3 := Lib.hid (B2.out.alloc B2.out.size (.cells #[.slice a1 m1 b1, .slice a2 m2 b2] 33 (0, 0)))
    have X8 := Lib.hid (blk_new w2 (.cells #[.slice a1 m1 b1, .slice a2 m2 b2] 33 (0, 0)))
    have D23 := Lib.hid ((Below.refl w2.heap.size w2).alloc (Nat.le_refl _) (.cells #[.slice a1 m1 b1, .slice a2 m2 b2] 33 (0, 0)))
    generalize w2.alloc (.cells #[.slice a1 m1 b1, .slice a2 m2 b2] 33) = w3 at *
    have B03 := Lib.hid (B0.out.trans (B3.out.mono B0.out.size))
    have Q1 := Lib.hid (P1.out.call D23.out)
    have Q2 := Lib.hid (P2.out.call D23.out)
    have K6 := Lib.hid (blk_call X6.out B3.out)
    have hlt1 : w.heap.size < w1.heap.size := blk_lt X6.out
    have hlt6 : w1.heap.size ≤ w2.heap.size := B2.out.size
    clear P1 P2 B2 B3 D23 B0 X6 HP
    generalize w2.heap.size = X at *
    go_wp2_with fail
    go_loopw [10] (fun s10 wr => ∃ (h f : Nat) (p : List ByteArray) (q : List Pr) (A1 A2 : Option Addr) (n1 n2 c1 c2 : Nat), s10 = .int .i64 (h : Int) ∧ h + f = 6 ∧ 1 ≤ f ∧ Hid (wr.heap[X]? = some (.cells #[.slice A1 n1 c1, .slice A2 n2 c2] 33 (0, 0))) ∧ Hid (Ss wr (.slice A1 n1 c1) p) ∧ Hid (Ps wr (.slice A2 n2 c2) q) ∧ Hid (rightB p q = true) ∧ Hid (R = goL l n g f (fdB l p) (fdP l p q) (h : Int)) ∧ Hid (wr.heap[w.heap.size]? = some (.cells #[.slice none 0 0, .slice none 0 0, .int .i64 0, .slice none 0 0, .slice none 0 0, .int .i64 0] 50 (0, 0))) ∧ Hid (Below w.heap.size w wr)) (fun s10 _ => 6 - (intOf s10).toNat)
    case atStart => exact ⟨0, 6, pp, qq, _, _, _, _, _, _, rfl, rfl, by omega, X8.out, Q1.out, Q2.out, PR.out, ER2.out, K6.out, B03.out⟩
    case round =>
      obtain ⟨h, f, p, q, A1, A2, n1, n2, c1, c2, rfl, hf6, hf1, KX, HSP, HPQ, HPR, HR, KZ, HB⟩ := hrel
      obtain ⟨f, rfl⟩ : ∃ f', f = f' + 1 := ⟨f - 1, by omega⟩
      have hXX : w.heap.size ≠ X := by omega
      have PS := Lib.hid (right_small HPR.out)
      have HSr := Lib.hid (HS0.out.call HB.out)
      have HGr := Lib.hid (HG0.out.call HB.out)
      have x0 : wr.cell? ⟨X, 0, none⟩ = some (.slice A1 n1 c1) := by rw [blk_cell KX.out]; rfl
      have HRE := Lib.hid (refResolve30 _ l _ p wr HSr.out HF.out HZ.out HSP.out (fun t ht => by have := (PS.out.2.2.1 t ht).2; omega) (by have := PS.out.1; omega))
      by_cases hok : fdB l p = true
      · obtain ⟨hrt, i, hfi, hil, -, -⟩ := fd_yes hok
        have h16 : l.length ≤ 16 := (by have := hrt; rw [rtB, Bool.and_eq_true] at this; exact (of_decide_eq_true this.1).2)
        have HPO := Lib.hid (rt_par hrt)
        have HCH := Lib.hid (fun (W : World) hb => refChain25o _ l i W (HSr.out.call (w' := W) hb) HPO.out hil h16)
        have hE : R = if (syL l n g (chL l (i : Int))).1 = 0 then (0, ⟨p, q, (i : Int), chL l (i : Int), fdL l p, (h : Int)⟩) else if (syL l n g (chL l (i : Int))).1 = 1 then (3, zPl) else if (h : Int) = 5 then (4, zPl) else goL l n g f (flB l (syL l n g (chL l (i : Int))).2) (flP l (syL l n g (chL l (i : Int))).2) ((h : Int) + 1) := by
          rw [HR.out, goL, if_neg (by rw [hok]; decide), fdP_yes q hok, hfi]
        have HE := Lib.hid hE
        have HLC := Lib.hid (ch_len l (i : Int))
        have HLT := Lib.hid (ch_lt l (i : Int))
        rw [hok, hfi] at HRE
        clear HR hE hrt hfi
        generalize fdL l p = ML at *
        generalize chL l (i : Int) = CH at *
        go_upto_block 2 with (first
          | (go_at_call 30; refine HRE.out.mono ?_; rintro e wa ⟨Aa, na, ca, rfl, ha, hb⟩; have HM := Lib.hid ha; have Ba := Lib.hid hb; clear ha hb)
          | (go_at_call 31; refine (HCH.out _ Ba.out).mono ?_; rintro e wb ⟨ub, rfl, hb⟩; have HO := Lib.hid hb; have Bb := Lib.hid (Ba.out.trans (hb.2.1.mono Ba.out.size)); obtain ⟨Ab, cb, eb⟩ := hb.ni.lenN; subst eb; clear hb))
        have Dwb := Lib.hid Bb.out
        have HMb := Lib.hid (HM.out.call HO.out.2.1)
        have KZb := Lib.hid (blk_call KZ.out Bb.out)
        have KXb := Lib.hid (blk_call KX.out Bb.out)
        have HSb := Lib.hid (HSr.out.call Bb.out)
        have HGb := Lib.hid (HGr.out.call Bb.out)
        have HNb := Lib.hid HO.out.ni
        obtain ⟨_, _, eb, -, -, hcc⟩ := HNb.out
        cases eb
        have CC := Lib.hid hcc
        clear hcc
        have h16' : CH.length ≤ 16 := by have := HLC.out; omega
        obtain ⟨wo, hwo⟩ : ∃ wo, wo = wr := ⟨_, rfl⟩
        subst hwo
        go_wp2_with fail
        go_loopw [14, 15, 45] (fun s14 s15 s45 wr => ∃ (k : Nat), k ≤ CH.length ∧ s14 = .int .i64 (syL l n g (CH.take k)).1 ∧ s15 = .string (syL l n g (CH.take k)).2 ∧ s45 = .int .i64 (k : Int) ∧ Hid (Below wb.heap.size wb wr)) (fun _ _ s45 _ => CH.length - (intOf s45).toNat)
        case atStart => exact ⟨0, Nat.zero_le _, rfl, rfl, rfl, Below.refl _ _⟩
        case round =>
          obtain ⟨k, hk, rfl, rfl, rfl, HD⟩ := hrel
          by_cases hlt : k < CH.length
          · have d0 : (k : Int) < (CH.length : Int) := by omega
            obtain ⟨x, o, rfl, hcell⟩ := CC.out k hlt
            have g0 : wr.cell? ⟨x, o + k, none⟩ = some (.int .i64 (CH.getD k 0 : Nat)) := by rw [HD.out.cell (World.block_lt_of_cell? _ _ hcell)]; exact hcell
            have HNX := Lib.hid (sy_next l n g CH k hlt)
            have hy := HLT.out (CH.getD k 0) (by simp [List.getD, hlt])
            clear hcell
            generalize CH.getD k 0 = y at *
            obtain ⟨x2, o2, rfl, hat, -⟩ := (HSb.out.call HD.out).at y hy
            have g5 := hat.c5
            have g6 := hat.c6
            have g7 := hat.c7
            have d1 : (y : Int) < (l.length : Int) := by omega
            clear hat
            generalize hsn : syL l n g (CH.take (k + 1)) = sn at *
            have HSN := Lib.hid hsn
            clear hsn
            generalize syL l n g (CH.take k) = sy at *
            have HAK := Lib.hid (ask8 ⟨(l.getD y default).rk, (l.getD y default).rf, (l.getD y default).rt⟩ _ n g wr (HGb.out.call HD.out))
            rw [AskPost_eq] at HAK
            generalize sayI (l.getD y default).rk (fsB n g (l.getD y default).rf) = SI at *
            generalize toT (l.getD y default).rk (fsB n g (l.getD y default).rf) (l.getD y default).rt = TT at *
            generalize l.getD y default = r at *
            by_cases h0 : sy.1 = 0
            · have E9 : Hid (sn = (SI, TT)) := HNX.out.trans (if_pos h0)
              have q0 : (sy.1 == 0) = true := by simpa using h0
              go_wp2_with (first | (go_at_call 32; refine HAK.out.mono ?_; rintro e wc ⟨rfl, hc⟩; have Bc := Lib.hid (HD.out.trans (hc.mono HD.out.size)); clear hc))
              go_roundw
              case rel => exact ⟨k + 1, by omega, by rw [HSN.out, E9.out], by rw [HSN.out, E9.out], by go_num, Bc.out⟩
              case measure => simp [intOf]; omega
            · have E9 : Hid (sn = sy) := HNX.out.trans (if_neg h0)
              have q0 : (sy.1 == 0) = false := by simpa using h0
              go_wp2_with fail
              go_roundw
              case rel => exact ⟨k + 1, by omega, by rw [HSN.out, E9.out], by rw [HSN.out, E9.out], by go_num, HD.out⟩
              case measure => simp [intOf]; omega
          · obtain rfl : k = CH.length := by omega
            rw [List.take_length]
            have Be := Lib.hid (Bb.out.trans (HD.out.mono Bb.out.size))
            have KZe := Lib.hid (blk_call KZb.out HD.out)
            have KXe := Lib.hid (blk_call KXb.out HD.out)
            have HBe := Lib.hid (HB.out.trans (Be.out.mono HB.out.size))
            have HSY := Lib.hid (sy_range l n g CH)
            obtain ⟨⟨k0, k1, k2, k3, k4, k5⟩, ⟨f0, f1, f2, f3, f4, f5⟩⟩ := blk6 KZe.out
            clear HO HNb CC HSb HGb Dwb KZb KXb
            generalize syL l n g CH = sy at *
            obtain ⟨a, x⟩ := sy
            dsimp only at HE HSY
            have hXw : X < wr.heap.size := blk_lt KXe.out
            have hZw : w.heap.size < wr.heap.size := blk_lt KZe.out
            rcases HSY.out with h0 | h1 | h2
            · subst h0
              have E : Hid (R = (0, { (⟨p, q, (i : Int), CH, ML, 0⟩ : Pl) with h := (h : Int) })) := HE.out.trans (if_pos rfl)
              clear HE HSY
              go_upto_region 17 with fail
              have KS : Hid (∀ w' : World, Kp (fun k => k = w.heap.size) wr w' → w'.cell? ⟨X, 0, none⟩ = some (.slice A1 n1 c1) ∧ w'.cell? ⟨X, 1, none⟩ = some (.slice A2 n2 c2) ∧ Kp (fun k => k = w.heap.size) wr w') := by
                intro w' hk
                have hb : w'.heap[X]? = _ := (hk.block X hXw (fun e => hXX e.symm)).trans KXe.out
                exact ⟨by rw [blk_cell hb]; rfl, by rw [blk_cell hb]; rfl, hk⟩
              have hSd : (fun w' : World => w'.cell? ⟨X, 0, none⟩ = some (.slice A1 n1 c1) ∧ w'.cell? ⟨X, 1, none⟩ = some (.slice A2 n2 c2) ∧ Kp (fun k => k = w.heap.size) wr w') (World.drew wr) := KS.out _ ((Kp.refl _ _).drew)
              refine wp_region_sink (S := fun w' : World => w'.cell? ⟨X, 0, none⟩ = some (.slice A1 n1 c1) ∧ w'.cell? ⟨X, 1, none⟩ = some (.slice A2 n2 c2) ∧ Kp (fun k => k = w.heap.size) wr w') (n := 1000) (by kernel_rfl) ?_
              change wpSink _ _ _ _ _ 1000 10 _ _ _
              refine sink_take1 (i := 0) (d := some 64) (v := ?_) rfl rfl (by kernel_rfl) (by decide) (by kernel_rfl) (by kernel_rfl) (fun _ _ _ h => h) (Or.inl ⟨by rfl, ?_⟩) hSd ?_
              rotate_left
              · intro wz hSw
                (try dsimp only at hSw)
                obtain ⟨q0, q1, q2⟩ := hSw
                go_simp
                (try with_reducible rfl)
              try simp only [Act.put, List.setIfInBounds_toArray, List.set_cons_zero, List.set_cons_succ]
              refine sink_take1 (i := 1) (d := some 65) (v := ?_) rfl rfl (by kernel_rfl) (by decide) (by kernel_rfl) (by kernel_rfl) (fun _ _ _ h => h) (Or.inl ⟨by rfl, ?_⟩) hSd ?_
              rotate_left
              · intro wz hSw
                (try dsimp only at hSw)
                obtain ⟨q0, q1, q2⟩ := hSw
                go_simp
                (try with_reducible rfl)
              try simp only [Act.put, List.setIfInBounds_toArray, List.set_cons_zero, List.set_cons_succ]
              refine sink_take1 (i := 2) (d := some 66) (v := ?_) rfl rfl (by kernel_rfl) (by decide) (by kernel_rfl) (by kernel_rfl) (fun _ _ _ h => h) (Or.inl ⟨by rfl, ?_⟩) hSd ?_
              rotate_left
              · intro wz hSw
                (try dsimp only at hSw)
                obtain ⟨q0, q1, q2⟩ := hSw
                go_simp
                (try with_reducible rfl)
              try simp only [Act.put, List.setIfInBounds_toArray, List.set_cons_zero, List.set_cons_succ]
              refine sink_take1 (i := 3) (d := some 67) (v := ?_) rfl rfl (by kernel_rfl) (by decide) (by kernel_rfl) (by kernel_rfl) (fun _ _ _ h => h) (Or.inl ⟨by rfl, ?_⟩) hSd ?_
              rotate_left
              · intro wz hSw
                (try dsimp only at hSw)
                obtain ⟨q0, q1, q2⟩ := hSw
                go_simp
                (try with_reducible rfl)
              try simp only [Act.put, List.setIfInBounds_toArray, List.set_cons_zero, List.set_cons_succ]
              refine sink_take1 (i := 5) (d := some 69) (v := ?_) rfl rfl (by kernel_rfl) (by decide) (by kernel_rfl) (by kernel_rfl) (fun _ _ _ h => h) (Or.inl ⟨by rfl, ?_⟩) hSd ?_
              rotate_left
              · intro wz hSw
                (try dsimp only at hSw)
                obtain ⟨q0, q1, q2⟩ := hSw
                go_simp
                (try with_reducible rfl)
              try simp only [Act.put, List.setIfInBounds_toArray, List.set_cons_zero, List.set_cons_succ]
              refine sink_take1 (i := 6) (d := some 70) (v := ?_) rfl rfl (by kernel_rfl) (by decide) (by kernel_rfl) (by kernel_rfl) (fun _ _ _ h => h) (Or.inl ⟨by rfl, ?_⟩) hSd ?_
              rotate_left
              · intro wz hSw
                (try dsimp only at hSw)
                obtain ⟨q0, q1, q2⟩ := hSw
                go_simp
                (try with_reducible rfl)
              try simp only [Act.put, List.setIfInBounds_toArray, List.set_cons_zero, List.set_cons_succ]
              refine sink_one (i := 4) (by kernel_rfl) ?_
              refine wpOp_step rfl (fun K' hK => ?_)
              have HKK := Lib.hid hK
              clear hK
              rw [if_pos (by rfl)]
              go_simp
              refine (HCH.out _ Be.out.drew).mono ?_
              rintro e w3' ⟨u, rfl, h3⟩
              have H3 := Lib.hid h3
              have D3 := Lib.hid ((Below.refl wr.heap.size wr).drew.trans h3.2.1)
              have hS3 : (fun w' : World => w'.cell? ⟨X, 0, none⟩ = some (.slice A1 n1 c1) ∧ w'.cell? ⟨X, 1, none⟩ = some (.slice A2 n2 c2) ∧ Kp (fun k => k = w.heap.size) wr w') w3' := KS.out _ (Kp.of_below D3.out _)
              obtain ⟨A6, n6, c6, e6⟩ := h3.shapeC
              subst e6
              clear h3 hSd
              refine HKK.out _ _ ⟨Or.inr hS3, ?_⟩
              clear HKK
              try simp only [Act.put, List.setIfInBounds_toArray, List.set_cons_zero, List.set_cons_succ]
              refine sink_take1 (i := 7) (d := some 71) (v := ?_) rfl rfl (by kernel_rfl) (by decide) (by kernel_rfl) (by kernel_rfl) (fun _ _ _ h => h) (Or.inl ⟨by rfl, ?_⟩) hS3 ?_
              rotate_left
              · intro wz hSw
                (try dsimp only at hSw)
                obtain ⟨q0, q1, q2⟩ := hSw
                go_simp
                (try with_reducible rfl)
              try simp only [Act.put, List.setIfInBounds_toArray, List.set_cons_zero, List.set_cons_succ]
              have K43 := Lib.hid (blk_call KZe.out D3.out)
              obtain ⟨⟨k0, k1, k2, k3, k4, k5⟩, ⟨f0, f1, f2, f3, f4, f5⟩⟩ := blk6 K43.out
              refine sink_one (i := 8) (by kernel_rfl) ?_
              refine wpOp_step rfl (fun K' hK => ?_)
              have HKK := Lib.hid hK
              clear hK
              rw [if_pos (by rfl)]
              go_simp
              have K44 := Lib.hid (set6 K43.out (.slice A1 n1 c1) (.slice A2 n2 c2) (.int .i64 (i : Int)) (.slice A6 n6 c6) (.slice Aa na ca) (.int .i64 (h : Int)))
              have D4 := Lib.hid (kp6 w3' w.heap.size (.slice A1 n1 c1) (.slice A2 n2 c2) (.int .i64 (i : Int)) (.slice A6 n6 c6) (.slice Aa na ca) (.int .i64 (h : Int)))
              clear k0 k1 k2 k3 k4 k5 f0 f1 f2 f3 f4 f5
              generalize (((((w3'.setCell ⟨w.heap.size, 0, none⟩ (.slice A1 n1 c1)).setCell ⟨w.heap.size, 1, none⟩ (.slice A2 n2 c2)).setCell ⟨w.heap.size, 2, none⟩ (.int .i64 (i : Int))).setCell ⟨w.heap.size, 3, none⟩ (.slice A6 n6 c6)).setCell ⟨w.heap.size, 4, none⟩ (.slice Aa na ca)).setCell ⟨w.heap.size, 5, none⟩ (.int .i64 (h : Int)) = w4' at *
              have hS4 : (fun w' : World => w'.cell? ⟨X, 0, none⟩ = some (.slice A1 n1 c1) ∧ w'.cell? ⟨X, 1, none⟩ = some (.slice A2 n2 c2) ∧ Kp (fun k => k = w.heap.size) wr w') w4' := KS.out _ ((Kp.of_below D3.out _).trans D4.out (fun i _ h => h))
              clear hS3
              refine HKK.out _ _ ⟨Or.inr hS4, ?_⟩
              clear HKK
              try simp only [Act.put, List.setIfInBounds_toArray, List.set_cons_zero, List.set_cons_succ]
              refine sink_take1 (i := 9) (d := some 7) (v := ?_) rfl rfl (by kernel_rfl) (by decide) (by kernel_rfl) (by kernel_rfl) (fun _ _ _ h => h) (Or.inl ⟨by rfl, ?_⟩) hS4 ?_
              rotate_left
              · intro wz hSw
                (try dsimp only at hSw)
                obtain ⟨q0, q1, q2⟩ := hSw
                go_simp
                (try with_reducible rfl)
              try simp only [Act.put, List.setIfInBounds_toArray, List.set_cons_zero, List.set_cons_succ]
              refine sink_done (by kernel_rfl) ?_
              clear hS4
              have HPL : Hid (PlOk w3' (.slice A1 n1 c1) (.slice A2 n2 c2) (.slice A6 n6 c6) (.slice Aa na ca) ⟨p, q, (i : Int), CH, ML, 0⟩) := ⟨(HSP.out.call Be.out).call D3.out, (HPQ.out.call Be.out).call D3.out, H3.out.nt, (HMb.out.call HD.out).call D3.out⟩
              obtain ⟨⟨k0, k1, k2, k3, k4, k5⟩, -⟩ := blk6 K44.out
              go_wp2
              refine bodyPost_ret (v := .tuple #[.agg #[.slice A1 n1 c1, .slice A2 n2 c2, .int .i64 (i : Int), .slice A6 n6 c6, .slice Aa na ca, .int .i64 (h : Int)], .int .i64 0]) ?_ rfl ?_
              · rw [results_cell_tmp rfl]
                go_simp
              · rw [E.out]
                exact GoPost.mk _ _ _ _ (i : Int) (h : Int) 0 rfl rfl rfl rfl (HPL.out.kpU K43.out (by decide) plC_no D4.out) ((HBe.out.trans (D3.out.mono HBe.out.size)).trans (D4.out.below (by have := HBe.out.size; have := D3.out.size; omega) (fun k hk e => by omega)))
            · subst h1
              have E : Hid (R = (3, zPl)) := HE.out.trans ((if_neg (by decide)).trans (if_pos rfl))
              clear HE HSY
              go_wp2_with fail
              exact ref_err E.out rfl rfl (Nat.le_refl _) KZe.out HBe.out
            · subst h2
              by_cases h5 : h = 5
              · subst h5
                have E : Hid (R = (4, zPl)) := HE.out.trans ((if_neg (by decide)).trans ((if_neg (by decide)).trans (if_pos rfl)))
                clear HE HSY
                go_wp2_with fail
                exact ref_err E.out rfl rfl (Nat.le_refl _) KZe.out HBe.out
              · have q5 : ((h : Int) == 5) = false := by simpa using (show ¬ (h : Int) = 5 by omega)
                have E : Hid (R = goL l n g f (flB l x) (flP l x) ((h : Int) + 1)) := HE.out.trans ((if_neg (by decide)).trans ((if_neg (by decide)).trans (if_neg (by omega))))
                clear HE HSY
                have hh : (h : Int) ≤ 5 := by omega
                have HRV := Lib.hid (refReverse17 _ l x (.slice none 0 0) [] wr (HSr.out.call Be.out) HF.out HZ.out (ps_nil _) (by simp) (fun p hp => by simp at hp))
                have HRR := Lib.hid (rv_right l x [])
                have EY : Hid (rvB l x [] = true → flB l x = fdB l (rvL l x []) ∧ flP l x = fdP l (rvL l x []) []) := fun hb => ⟨by rw [flB, hb]; rfl, by rw [flP, if_pos hb]⟩
                have EN : Hid (rvB l x [] = false → flB l x = false ∧ flP l x = zPl) := fun hb => ⟨by rw [flB, hb]; rfl, by rw [flP, hb]; rfl⟩
                generalize flP l x = FP at *
                generalize flB l x = FB at *
                generalize rvL l x [] = RL at *
                generalize rvB l x [] = RB at *
                cases RB
                · have e9 := EN.out rfl
                  have E2 : Hid (R = (2, zPl)) := by
                    show _ = _
                    rw [E.out, e9.1]
                    cases f with
                    | zero => omega
                    | succ f => rw [goL, if_pos rfl]
                  clear e9 E EN EY
                  go_wp2_with (first | (go_at_call 33; refine HRV.out.mono ?_; rintro e wd ⟨u, rfl, hd, hb⟩; have Bd := Lib.hid hb; obtain ⟨Ad, nd, cd, ed⟩ := hd.shape; subst ed; have KZd := Lib.hid (blk_call KZe.out hb); clear k0 k1 k2 k3 k4 k5 f0 f1 f2 f3 f4 f5; obtain ⟨⟨k0, k1, k2, k3, k4, k5⟩, ⟨f0, f1, f2, f3, f4, f5⟩⟩ := blk6 KZd.out; clear hd hb))
                  exact ref_err E2.out rfl rfl (Nat.le_refl _) KZd.out (HBe.out.trans (Bd.out.mono HBe.out.size))
                · have e9 := EY.out rfl
                  have E2 : Hid (R = goL l n g f (fdB l RL) (fdP l RL []) ((h : Int) + 1)) := by show _ = _; rw [E.out, e9.1, e9.2]
                  clear e9 E EN EY
                  go_wp2_with (first | (go_at_call 33; refine HRV.out.mono ?_; rintro e wd ⟨u, rfl, hd, hb⟩; have HD1 := Lib.hid hd; have Bd := Lib.hid hb; obtain ⟨Ad, nd, cd, ed⟩ := hd.shape; subst ed; have KXd := Lib.hid (blk_call KXe.out hb); obtain ⟨y0, y1, y2, y3⟩ := blk2 KXd.out; clear hd hb))
                  have HKP : Hid (Kp (fun k => k = X) wd ((wd.setCell ⟨X, 0, none⟩ (.slice Ad nd cd)).setCell ⟨X, 1, none⟩ (.slice none 0 0))) := ((Kp.refl (fun k => k = X) wd).setCell (p := ⟨X, 0, none⟩) (fun _ => rfl) _).setCell (p := ⟨X, 1, none⟩) (fun _ => rfl) _
                  have HKX : Hid (((wd.setCell ⟨X, 0, none⟩ (.slice Ad nd cd)).setCell ⟨X, 1, none⟩ (.slice none 0 0)).heap[X]? = some (.cells #[.slice Ad nd cd, .slice none 0 0] 33 (0, 0))) := blk_set2' KXd.out _ _
                  go_roundw
                  case rel =>
                    refine ⟨h + 1, f, RL, [], _, _, _, _, _, _, by go_num, by omega, by omega, HKX.out, HD1.out.kpU KXd.out no2 HKP.out, ps_nil _, HRR.out, E2.out, ?_, ?_⟩
                    · exact (HKP.out.block w.heap.size (by have := Bd.out.size; omega) hXX).trans (blk_call KZe.out Bd.out)
                    · exact (HBe.out.trans (Bd.out.mono HBe.out.size)).trans (HKP.out.below (by have := HBe.out.size; have := Bd.out.size; omega) (fun k hk e => by omega))
                  case measure => simp [intOf]; omega
      · have hok : fdB l p = false := by simpa using hok
        rw [hok] at HRE
        have E : Hid (R = (2, zPl)) := by show _ = _; rw [HR.out, goL, hok]; rfl
        go_wp2_with (first | (go_at_call 30; refine HRE.out.mono ?_; rintro e wa ⟨Aa, na, ca, rfl, ha, hb⟩; have Ba := Lib.hid hb; have KZa := Lib.hid (blk_call KZ.out hb); obtain ⟨⟨k0, k1, k2, k3, k4, k5⟩, ⟨f0, f1, f2, f3, f4, f5⟩⟩ := blk6 KZa.out; clear ha hb))
        exact ref_err E.out rfl rfl (Nat.le_refl _) KZa.out (HB.out.trans (Ba.out.mono HB.out.size))
  · have hpb : parB s = false := by simpa using hpb
    rw [hpb] at HP
    have E : Hid (R = (1, zPl)) := by show _ = _; rw [ER.out, goS, hpb]; rfl
    have e0 : erI false = 1 := rfl
    rw [e0] at HP
    clear e0 hpb ER
    go_wp2_with (first | (go_at_call 29; refine HP.out.mono ?_; rintro e w2 ⟨u1, u2, rfl, h1, h2, hb2⟩; obtain ⟨a1, m1, b1, e1⟩ := h1.shape; obtain ⟨a2, m2, b2, e2⟩ := h2.shape; subst e1 e2; clear h1 h2; have B2 := Lib.hid (hb2.alloc hb2.size (.cells #[.slice a1 m1 b1, .slice a2 m2 b2] 33 (0, 0))); have K6 := Lib.hid (blk_call X6.out B2.out); obtain ⟨⟨k0, k1, k2, k3, k4, k5⟩, ⟨f0, f1, f2, f3, f4, f5⟩⟩ := blk6 K6.out; clear hb2))
    exact ref_err E.out rfl rfl (Nat.le_refl _) K6.out (B0.out.trans (B2.out.mono B0.out.size))
end Go.Proofs.YthigandmemifoaaGreatDoor
