/-
  Put together: TvA, Args.
-/
import Derived.Test.YthigandmemifoaaGreatDoorP40
import Derived.Test.YthigandmemifoaaGreatDoorP41
import Derived.Test.YthigandmemifoaaGreatDoorP43
import Derived.Test.YthigandmemifoaaGreatDoorP05
import Derived.Test.YthigandmemifoaaGreatDoorP04
import Derived.Test.YthigandmemifoaaGreatDoorChecked
import Derived.Lib.SmallJoins
import Derived.Test.YthigandmemifoaaGreatDoorP33
import Derived.Deep.Strs
import Derived.Deep.Grids
import Derived.Deep.Slices
import Derived.Deep.SlicePairs
import Derived.ChangeSlices
import Derived.OpenShut
namespace Go.Proofs.YthigandmemifoaaGreatDoor
open Go.RowKit Go.PlainAid
set_option maxRecDepth 100000

theorem nilRl (B : Nat) (w0 w : World) (hb : Below B w0 w) (hB : B ≤ w.heap.size) : OwnRl B w0 (.slice none 0 0) [] w := ⟨World.ownsRow_nil _ _ _ _, hb, hB⟩
theorem mt_len8 (l : List Sg) (path : List ByteArray) : (mtL l path).length ≤ 1000000000 := by
  by_cases hr : rgB l = true
  · have h8 := rg_len hr
    rw [(mt_some hr).2]
    have : ∀ (l : List Sg) (p : List ByteArray), ((mtR l p).getD []).length ≤ l.length := by
      intro l
      induction l with
      | nil => intro p; rw [mtR]; split <;> simp
      | cons g r ih =>
        intro p
        rw [mtR]
        rcases tkN g p with _ | m
        · simp
        · have h1 := ih (p.drop m)
          rcases hq : mtR r (p.drop m) with _ | q
          · simp [hq]
          · have h2 : (tlP g (p.take m)).length ≤ 1 := by unfold tlP; split <;> simp
            rw [hq] at h1
            simp [hq] at h1 ⊢
            omega
    have := this l path
    omega
  · have hr : rgB l = false := by simpa using hr
    rw [(mt_wrong hr).2]
    simp
theorem fdL_len (l : List Rc) (p : List ByteArray) : (fdL l p).length ≤ 1000000000 := by
  rw [fdL]
  cases fdA l p with
  | nil => simp [aL]
  | cons i0 al => exact mt_len8 _ _
theorem plSz_zero : PlSz zPl := ⟨⟨by simp [zPl], by simp [zPl]⟩, ⟨by simp [zPl], fun x hx => by simp [zPl] at hx⟩, by simp [zPl]⟩
set_option maxHeartbeats 25600000 in
theorem travelArrives5 (w : World) (at' : Int) {A0 A1 A2 A3 A4 A5 A6 D1 : Option Addr} {n0 n1 n2 n3 n4 n5 n6 c0 c1 c2 c3 c4 c5 c6 m1 e1 nf : Nat} {f0 f1 f2 f3 f4 f5 f6 g1 : Nat → Int} {fv : Value} {g : Nat → Bool} (h0 : Ia w A0 n0 f0) (h1 : Ia w A1 n1 f1) (h2 : Ia w A2 n2 f2) (h3 : Ia w A3 n3 f3) (h4 : Ia w A4 n4 f4) (h5 : Ia w A5 n5 f5) (h6 : Ia w A6 n6 f6) (u1 : Ia w D1 m1 g1) (k0 : Bs w fv nf g) :
    Calls Tryz.prog 5 #[.agg #[.slice A0 n0 c0, .slice A1 n1 c1, .slice A2 n2 c2, .slice A3 n3 c3, .slice A4 n4 c4, .slice A5 n5 c5, .slice A6 n6 c6], .int .i64 at', .slice D1 m1 e1, fv] w fun e w' => e = .returned (.bool true) ∧ Below w.heap.size w w' := by
  obtain ⟨Af, cf, rfl⟩ := k0.shape
  have hcA : (0 : Int) ≤ min (nf : Int) 6 := by omega
  have hcB : min (nf : Int) 6 ≤ (cf : Int) := by have := k0.cap; omega
  have hcC : (min (nf : Int) 6).toNat ≤ nf := by omega
  have HB := Lib.hid ((Below.refl w.heap.size w).alloc (Nat.le_refl _) (.cells #[.slice A0 n0 c0, .slice A1 n1 c1, .slice A2 n2 c2, .slice A3 n3 c3, .slice A4 n4 c4, .slice A5 n5 c5, .slice A6 n6 c6] 44 (0, 0)))
  have XK := Lib.hid (blk_new w (.cells #[.slice A0 n0 c0, .slice A1 n1 c1, .slice A2 n2 c2, .slice A3 n3 c3, .slice A4 n4 c4, .slice A5 n5 c5, .slice A6 n6 c6] 44 (0, 0)))
  have HRC := Lib.hid (records7 (w.alloc (.cells #[.slice A0 n0 c0, .slice A1 n1 c1, .slice A2 n2 c2, .slice A3 n3 c3, .slice A4 n4 c4, .slice A5 n5 c5, .slice A6 n6 c6] 44 (0, 0))) (c0 := c0) (c1 := c1) (c2 := c2) (c3 := c3) (c4 := c4) (c5 := c5) (c6 := c6) (h0.call HB.out) (h1.call HB.out) (h2.call HB.out) (h3.call HB.out) (h4.call HB.out) (h5.call HB.out) (h6.call HB.out))
  have HU := Lib.hid (u1.call HB.out)
  have HF := Lib.hid (k0.call HB.out)
  clear h0 h1 h2 h3 h4 h5 h6 u1 k0
  go_enter Tryz.func5, Tryz.ntmps5
  go_upto_region 1 with fail
  generalize w.alloc (.cells #[.slice A0 n0 c0, .slice A1 n1 c1, .slice A2 n2 c2, .slice A3 n3 c3, .slice A4 n4 c4, .slice A5 n5 c5, .slice A6 n6 c6] 44 (0, 0)) = w1 at *
  have x0 : w1.cell? ⟨w.heap.size, 0, none⟩ = some (.slice A0 n0 c0) := by rw [blk_cell XK.out]; rfl
  have x1 : w1.cell? ⟨w.heap.size, 1, none⟩ = some (.slice A1 n1 c1) := by rw [blk_cell XK.out]; rfl
  have x2 : w1.cell? ⟨w.heap.size, 2, none⟩ = some (.slice A2 n2 c2) := by rw [blk_cell XK.out]; rfl
  have x3 : w1.cell? ⟨w.heap.size, 3, none⟩ = some (.slice A3 n3 c3) := by rw [blk_cell XK.out]; rfl
  have x4 : w1.cell? ⟨w.heap.size, 4, none⟩ = some (.slice A4 n4 c4) := by rw [blk_cell XK.out]; rfl
  have x5 : w1.cell? ⟨w.heap.size, 5, none⟩ = some (.slice A5 n5 c5) := by rw [blk_cell XK.out]; rfl
  have x6 : w1.cell? ⟨w.heap.size, 6, none⟩ = some (.slice A6 n6 c6) := by rw [blk_cell XK.out]; rfl
  go_upto_region 2 with (first | (go_at_call 10; refine HRC.out.mono ?_; rintro e w2 ⟨v1, L, ds, rfl, ho, hok⟩; have HO := Lib.hid ho.rs; have B2 := Lib.hid ho.below; have HK := Lib.hid hok; obtain ⟨P4, p4, q4, e4⟩ := ho.shape; subst e4; clear ho hok))
  clear x0 x1 x2 x3 x4 x5 x6 XK HRC
  go_upto_region 3 with fail
  have HF2 := Lib.hid (((HF.out.call B2.out)).take _ hcC)
  have HU2 := Lib.hid (HU.out.call B2.out)
  have B02 := Lib.hid (HB.out.trans (B2.out.mono HB.out.size))
  clear HF HU HB B2
  generalize (min (nf : Int) 6).toNat = nk at *
  clear hcA hcB hcC
  have HTO := Lib.hid (to14 _ L ds at' D1 m1 e1 g1 w2 HO.out HK.out HU2.out)
  have hL8 := HK.out.len8
  go_upto_region 4 with (first | (go_at_call 14; refine HTO.out.mono ?_; rintro e w3 ⟨ts, rfl, hts, hb3⟩; have HTS := Lib.hid hts; have B3 := Lib.hid hb3; clear hts hb3))
  have HS3 := Lib.hid (HO.out.call B3.out)
  have HF3 := Lib.hid (HF2.out.call B3.out)
  have B03 := Lib.hid (B02.out.trans (B3.out.mono B02.out.size))
  clear HO HF2 HU2 HTO B3 B02
  have HGO := Lib.hid (fun (p : List ByteArray) (q : List Pr) (W : World) (hb : Below w3.heap.size w3 W) => go7 _ L (prnS p q) _ nk g W (HS3.out.call hb) HK.out.fit (by have := prn_size' p q; omega) (HF3.out.call hb))
  have HAR := Lib.hid (@arr_at L nk g ts HTS.out)
  have HG1 := Lib.hid (HGO.out ts [] w3 (Below.refl _ _))
  generalize hR : goS L nk g (prnS ts []) = R at *
  clear hR
  go_upto_region 5 with (first | (go_at_call 7; refine HG1.out.mono ?_; rintro e w4 ⟨v1, v2, v3, v4, rfl, hp4, hb4⟩; have HP4 := Lib.hid hp4; have B4 := Lib.hid hb4; obtain ⟨p1, i1, d1, p2, i2, d2, p3, i3, d3, p4, i4, d4, q1, q2, q3, q4⟩ := hp4.shape; subst q1 q2 q3 q4; clear hp4 hb4))
  have D45 := Lib.hid ((Below.refl w4.heap.size w4).alloc (Nat.le_refl _) (.cells #[.slice p1 i1 d1, .slice p2 i2 d2, .int .i64 R.2.i, .slice p3 i3 d3, .slice p4 i4 d4, .int .i64 R.2.h] 36 (0, 0)))
  have X12 := Lib.hid (blk_new w4 (.cells #[.slice p1 i1 d1, .slice p2 i2 d2, .int .i64 R.2.i, .slice p3 i3 d3, .slice p4 i4 d4, .int .i64 R.2.h] 36 (0, 0)))
  generalize w4.alloc (.cells #[.slice p1 i1 d1, .slice p2 i2 d2, .int .i64 R.2.i, .slice p3 i3 d3, .slice p4 i4 d4, .int .i64 R.2.h] 36 (0, 0)) = w5 at *
  have B35 := Lib.hid (B4.out.trans (D45.out.mono B4.out.size))
  have HP5 := Lib.hid (HP4.out.call D45.out)
  clear HG1 B4 D45 HP4
  generalize w4.heap.size = X at *
  obtain ⟨⟨k0, k1, k2, k3, k4, k5⟩, -⟩ := blk6 X12.out
  have B05 := Lib.hid (B03.out.trans (B35.out.mono B03.out.size))
  rcases HAR.out with ⟨er, hr, her⟩ | ⟨p, q, h', hr, hpq, hfd, hh0, hh5, hsy, hag, hsame⟩
  · subst hr
    dsimp only at *
    have HSM := Lib.hid (same13 _ _ _ _ _ _ _ _ zPl w5 HP5.out (plOk_zero w5) plSz_zero)
    have e1 : zPl.i = 0 := rfl
    have e2 : zPl.h = 0 := rfl
    try rw [e1] at HSM
    try rw [e2] at HSM
    try rw [e1] at k2
    try rw [e2] at k5
    clear e1 e2 HAR
    rcases her with rfl | rfl | rfl
    · go_wp2_with (first
        | (go_at_call 13; refine HSM.out.mono ?_; rintro e w6 ⟨rfl, hb6⟩; have B6 := Lib.hid (B05.out.trans (hb6.mono B05.out.size)); clear hb6)
        | (go_at_call 3; refine (travelRuns_any _).mono ?_; rintro e w7 ⟨rfl, hb7⟩; have B7 := Lib.hid (B6.out.trans (hb7.mono B6.out.size)); clear hb7))
      go_ret
      exact ⟨rfl, B7.out⟩
    · go_wp2_with (first
        | (go_at_call 13; refine HSM.out.mono ?_; rintro e w6 ⟨rfl, hb6⟩; have B6 := Lib.hid (B05.out.trans (hb6.mono B05.out.size)); clear hb6)
        | (go_at_call 3; refine (travelRuns_any _).mono ?_; rintro e w7 ⟨rfl, hb7⟩; have B7 := Lib.hid (B6.out.trans (hb7.mono B6.out.size)); clear hb7))
      go_ret
      exact ⟨rfl, B7.out⟩
    · go_wp2_with (first
        | (go_at_call 13; refine HSM.out.mono ?_; rintro e w6 ⟨rfl, hb6⟩; have B6 := Lib.hid (B05.out.trans (hb6.mono B05.out.size)); clear hb6)
        | (go_at_call 3; refine (travelRuns_any _).mono ?_; rintro e w7 ⟨rfl, hb7⟩; have B7 := Lib.hid (B6.out.trans (hb7.mono B6.out.size)); clear hb7))
      go_ret
      exact ⟨rfl, B7.out⟩
  · have HCH := Lib.hid (fdP_ch HK.out.fit p q)
    rw [fdP_yes q hfd] at hr hsy hag HCH
    subst hr
    have hAG := Lib.hid hag
    have HSY := Lib.hid hsy
    have HSAME := Lib.hid hsame
    have HPQ := Lib.hid hpq
    clear hag hsy hsame hpq hfd HAR
    have hml8 : Hid ((fdL L p).length ≤ 1000000000) := fdL_len L p
    generalize fdI L p = ID at *
    generalize fdL L p = ML at *
    generalize chL L ID = CH at *
    dsimp only at *
    have HN5 := Lib.hid HP5.out.2.2.1.1
    have H5p : Hid (Ss w5 (.slice p1 i1 d1) p) := HP5.out.1
    have H5q : Hid (Ps w5 (.slice p2 i2 d2) q) := HP5.out.2.1
    have H5m : Hid (Ps w5 (.slice p4 i4 d4) ML) := HP5.out.2.2.2
    have HLC := HCH.out.1
    have hj3 : (i3 : Int) = (CH.length : Int) := by obtain ⟨_, _, e, -⟩ := HN5.out; cases e; rfl
    have HSW := Lib.hid (HS3.out.call B35.out)
    have HFW := Lib.hid (HF3.out.call B35.out)
    obtain ⟨_, d3', e3', hcap3, -, hcc⟩ := HN5.out
    cases e3'
    have CC := Lib.hid hcc
    clear hcc hj3
    go_wp2_with fail
    go_loopw [14, 63] (fun s14 s63 wr => ∃ (k : Nat), k ≤ CH.length ∧ s63 = .int .i64 k ∧ Hid (OwnRl w5.heap.size w5 s14 ((CH.take k).map (fun k => rlR (L.getD k default))) wr)) (fun _ s63 _ => CH.length - (intOf s63).toNat)
    case atStart => exact ⟨0, Nat.zero_le _, rfl, nilRl _ _ _ (Below.refl _ _) (Nat.le_refl _)⟩
    case round =>
      obtain ⟨k, hk, rfl, HO⟩ := hrel
      have HB := Lib.hid HO.out.2.1
      obtain ⟨A7, n7, c7, h7⟩ := HO.out.kp
      subst h7
      by_cases hlt : k < CH.length
      · have d0 : (k : Int) < (CH.length : Int) := by omega
        obtain ⟨x, o, rfl, hcell⟩ := CC.out k hlt
        have g0 : wr.cell? ⟨x, o + k, none⟩ = some (.int .i64 (CH.getD k 0 : Nat)) := by rw [HB.out.cell (World.block_lt_of_cell? _ _ hcell)]; exact hcell
        have HNX := Lib.hid (ch_next L CH k hlt)
        have hy := HCH.out.2 (CH.getD k 0) (by simp [List.getD, hlt])
        have hml : Hid (((CH.take k).map (fun k => rlR (L.getD k default))).length ≤ 1000) := (show _ ≤ _ by simp; omega)
        clear hcell
        generalize CH.getD k 0 = y at *
        obtain ⟨LA, lc, eL⟩ := HSW.out.len
        cases eL
        obtain ⟨x2, o2, rfl, hat, -⟩ := (HSW.out.call HB.out).at y hy
        have g5 := hat.c5
        have g6 := hat.c6
        have g7 := hat.c7
        have d1 : (y : Int) < (L.length : Int) := by omega
        have d2 : ¬ (L.length : Int) ≤ (y : Int) := by omega
        clear hat
        generalize (CH.take k).map (fun k => rlR (L.getD k default)) = LL at *
        have E : Hid (rlR (L.getD y default) = ⟨(L.getD y default).rk, (L.getD y default).rf, (L.getD y default).rt⟩) := rfl
        generalize rlR (L.getD y default) = RR at *
        generalize L.getD y default = r at *
        have HR : Hid (Rls (wr.alloc (.cells #[.int .i64 r.rk, .int .i64 r.rf, .string r.rt] 23 (0, 0))) (.slice (some ⟨wr.heap.size, 0, none⟩) 1 1) 1 (fun _ => RR)) := rls_one (by rw [E.out]; exact blk_new wr _)
        go_wp2_with (first
          | (at_builtin; refine wpList_catR _ rfl (.tmp 75) (.tmp 81) rfl w5.heap.size w5 _ _ rfl (HO.out.call ((Below.refl wr.heap.size wr).alloc (Nat.le_refl _) (.cells #[.int .i64 r.rk, .int .i64 r.rf, .string r.rt] 23 (0, 0)))) hml.out _ 1 _ rfl (by omega) HR.out ?_; intro v9 w9 h9 hg9; have H9 := Lib.hid h9; obtain ⟨A9, n9, c9, e9⟩ := h9.kp; subst e9; clear h9 hg9))
        go_roundw
        case rel =>
          refine ⟨k + 1, by omega, by go_num, ?_⟩
          rw [HNX.out]
          exact H9.out
        case measure => simp [intOf]; omega
      · obtain rfl : k = CH.length := by omega
        rw [List.take_length] at HO
        have HAL := Lib.hid (all15s L CH _ _ nk g wr w5.heap.size w5 HO.out HLC (HFW.out.call HB.out))
        have HGQ := Lib.hid (fun (W : World) (hb : Below w5.heap.size w5 W) => HGO.out p q W (B35.out.trans (hb.mono B35.out.size)))
        rw [hAG.out] at HGQ
        by_cases hz : h' = 0
        · subst hz
          have HEQ := Lib.hid (HSAME.out rfl)
          go_wp2_with (first
            | (go_at_call 15; refine HAL.out.mono ?_; rintro e wa ⟨pa, rfl, ha⟩; rw [HSY.out]; have Ba := Lib.hid (HB.out.trans (ha.mono HB.out.size)); clear ha; obtain ⟨⟨k0, k1, k2, k3, k4, k5⟩, -⟩ := blk6 (blk_call X12.out Ba.out))
            | (go_at_call 8; first
                | (with_reducible refine (print12 _ _ p q wa (H5p.out.call Ba.out) (H5q.out.call Ba.out)).mono ?_; rintro e wb ⟨rfl, hb⟩; have Bb := Lib.hid (Ba.out.trans (hb.mono Ba.out.size)); clear hb; obtain ⟨⟨k0, k1, k2, k3, k4, k5⟩, -⟩ := blk6 (blk_call X12.out Bb.out))
                | (with_reducible refine (print12 _ _ p q wf (H5p.out.call Bf.out) (H5q.out.call Bf.out)).mono ?_; rintro e wg ⟨rfl, hb⟩; have Bg := Lib.hid (Bf.out.trans (hb.mono Bf.out.size)); clear hb; rw [HEQ.out]))
            | (go_at_call 7; refine (HGQ.out _ Bb.out).mono ?_; rintro e wc ⟨l1, l2, l3, l4, rfl, hpl, hc⟩; obtain ⟨a1, j1, t1, a2, j2, t2, a3, j3, t3, a4, j4, t4, q1, q2, q3, q4⟩ := hpl.shape; subst q1 q2 q3 q4; have Bc := Lib.hid (Bb.out.trans (hc.mono Bb.out.size)); have Bd := Lib.hid (Bc.out.alloc Bc.out.size (.cells #[.slice a1 j1 t1, .slice a2 j2 t2, .int .i64 ID, .slice a3 j3 t3, .slice a4 j4 t4, .int .i64 0] 36 (0, 0))); have PD := Lib.hid (hpl.call ((Below.refl wc.heap.size wc).alloc (Nat.le_refl _) (.cells #[.slice a1 j1 t1, .slice a2 j2 t2, .int .i64 ID, .slice a3 j3 t3, .slice a4 j4 t4, .int .i64 0] 36 (0, 0)))); obtain ⟨⟨y0, y1, y2, y3, y4, y5⟩, -⟩ := blk6 (blk_new wc (.cells #[.slice a1 j1 t1, .slice a2 j2 t2, .int .i64 ID, .slice a3 j3 t3, .slice a4 j4 t4, .int .i64 0] 36 (0, 0))); obtain ⟨⟨k0, k1, k2, k3, k4, k5⟩, -⟩ := blk6 (blk_call X12.out Bd.out); clear hpl hc)
            | (go_at_call 16; refine (samePeq _ _ ML _ PD.out.2.2.2 (H5m.out.call Bd.out) hml8.out).mono ?_; rintro e wf ⟨rfl, hf⟩; have Bf := Lib.hid (Bd.out.trans (hf.mono Bd.out.size)); clear hf; obtain ⟨⟨k0, k1, k2, k3, k4, k5⟩, -⟩ := blk6 (blk_call X12.out Bf.out))
            | (go_at_call 3; refine (travelRuns_any _).mono ?_; rintro e wh ⟨rfl, hh⟩; have Bh := Lib.hid hh; clear hh))
          go_ret
          exact ⟨rfl, (B05.out.trans (Bg.out.mono B05.out.size)).trans (Bh.out.mono (by have := B05.out.size; have := Bg.out.size; omega))⟩
        · have hp0 : 0 < h' := by omega
          go_wp2_with (first
            | (go_at_call 15; refine HAL.out.mono ?_; rintro e wa ⟨pa, rfl, ha⟩; rw [HSY.out]; have Ba := Lib.hid (HB.out.trans (ha.mono HB.out.size)); clear ha; obtain ⟨⟨k0, k1, k2, k3, k4, k5⟩, -⟩ := blk6 (blk_call X12.out Ba.out))
            | (go_at_call 8; first
                | (with_reducible refine (print12 _ _ p q wa (H5p.out.call Ba.out) (H5q.out.call Ba.out)).mono ?_; rintro e wb ⟨rfl, hb⟩; have Bb := Lib.hid (Ba.out.trans (hb.mono Ba.out.size)); clear hb; obtain ⟨⟨k0, k1, k2, k3, k4, k5⟩, -⟩ := blk6 (blk_call X12.out Bb.out))
                | (with_reducible refine (print12 _ _ p q wf (H5p.out.call Bf.out) (H5q.out.call Bf.out)).mono ?_; rintro e wg ⟨rfl, hb⟩; have Bg := Lib.hid (Bf.out.trans (hb.mono Bf.out.size)); clear hb; rw [HEQ.out]))
            | (go_at_call 7; refine (HGQ.out _ Bb.out).mono ?_; rintro e wc ⟨l1, l2, l3, l4, rfl, hpl, hc⟩; obtain ⟨a1, j1, t1, a2, j2, t2, a3, j3, t3, a4, j4, t4, q1, q2, q3, q4⟩ := hpl.shape; subst q1 q2 q3 q4; have Bc := Lib.hid (Bb.out.trans (hc.mono Bb.out.size)); have Bd := Lib.hid (Bc.out.alloc Bc.out.size (.cells #[.slice a1 j1 t1, .slice a2 j2 t2, .int .i64 ID, .slice a3 j3 t3, .slice a4 j4 t4, .int .i64 0] 36 (0, 0))); have PD := Lib.hid (hpl.call ((Below.refl wc.heap.size wc).alloc (Nat.le_refl _) (.cells #[.slice a1 j1 t1, .slice a2 j2 t2, .int .i64 ID, .slice a3 j3 t3, .slice a4 j4 t4, .int .i64 0] 36 (0, 0)))); obtain ⟨⟨y0, y1, y2, y3, y4, y5⟩, -⟩ := blk6 (blk_new wc (.cells #[.slice a1 j1 t1, .slice a2 j2 t2, .int .i64 ID, .slice a3 j3 t3, .slice a4 j4 t4, .int .i64 0] 36 (0, 0))); obtain ⟨⟨k0, k1, k2, k3, k4, k5⟩, -⟩ := blk6 (blk_call X12.out Bd.out); clear hpl hc)
            | (go_at_call 16; refine (samePeq _ _ ML _ PD.out.2.2.2 (H5m.out.call Bd.out) hml8.out).mono ?_; rintro e wf ⟨rfl, hf⟩; have Bf := Lib.hid (Bd.out.trans (hf.mono Bd.out.size)); clear hf; obtain ⟨⟨k0, k1, k2, k3, k4, k5⟩, -⟩ := blk6 (blk_call X12.out Bf.out))
            | (go_at_call 3; refine (travelRuns_any _).mono ?_; rintro e wh ⟨rfl, hh⟩; have Bh := Lib.hid hh; clear hh))
          go_ret
          exact ⟨rfl, (B05.out.trans (Bf.out.mono B05.out.size)).trans (Bh.out.mono (by have := B05.out.size; have := Bf.out.size; omega))⟩
end Go.Proofs.YthigandmemifoaaGreatDoor

namespace Go.Proofs.YthigandmemifoaaGreatDoor
open Go.ChangeShapes Go.WideShapes Go.ChangeAt Go.RowKit Go.Deep

theorem cells3 : Tryz.prog.cellsOf 3 = 1 := by kernel_rfl
theorem cells9 : Tryz.prog.cellsOf 9 = 1 := by kernel_rfl
theorem cells44 : Tryz.prog.cellsOf 44 = 7 := by kernel_rfl
theorem cells34 : Tryz.prog.cellsOf 34 = 1 := by kernel_rfl
theorem laid : laidOutB Tryz.prog = true := by kernel_rfl
theorem reads44 : Tryz.prog.readableRec 44 = true := by kernel_rfl
theorem array7 {α : Type} {cs : Array α} (h : cs.size = 7) : ∃ c0 c1 c2 c3 c4 c5 c6, cs = #[c0, c1, c2, c3, c4, c5, c6] := by
  obtain ⟨l⟩ := cs
  match l, h with
  | [c0, c1, c2, c3, c4, c5, c6], _ => exact ⟨c0, c1, c2, c3, c4, c5, c6, rfl⟩

theorem cells4 : Tryz.prog.cellsOf 4 = 1 := by kernel_rfl
theorem reads34 : Tryz.prog.readableRec 34 = true := by kernel_rfl
theorem reads47 : Tryz.prog.readableRec 47 = true := by kernel_rfl
theorem reads46 : Tryz.prog.readableRec 46 = true := by kernel_rfl
variable {H : Type} {enc : TypeId × Value → H} {W : World} {held : Bool}

theorem ia_of {v : Value} {n : Nat} {y : DataW H × List MemPlace} (h : DataW.trod enc Tryz.prog W 0 (fun _ => true) held n 34 [v] = some y) : ∃ A l c f, v = .slice A l c ∧ Ia W A l f := by
  rcases open_ints Tryz.underlying34 Tryz.underlying3 cells3 h with ⟨hcs, _⟩ | ⟨a, len, cap, zs, hcs, _, hl, hm, hz, _, hcell, _⟩
  · simp at hcs
    exact ⟨none, 0, 0, fun _ => 0, hcs, by omega, fun i hi => by omega⟩
  · simp at hcs
    simp at hz
    refine ⟨some a, len, cap, fun i => zs.getD i 0, hcs, by unfold maxLen at hm; omega, fun i hi => ?_⟩
    obtain ⟨b, off, spot⟩ := a
    have hspot : spot = none := by simpa [Addr.add] using World.cell?_spot (hcell 0 (by omega))
    subst hspot
    refine ⟨b, off, rfl, ?_⟩
    have := hcell i (by omega)
    rw [Addr.add_lit] at this
    exact this

set_option maxRecDepth 100000 in
theorem open_table {r : Reach} {b0 : Nat} {v : Value} {d : DataW H} {ps : List MemPlace} (hv : Value.okWide Tryz.prog W r b0 44 v) (h : DataW.Trod enc Tryz.prog W 0 (fun _ => true) held 44 v d ps) :
    ∃ A0 n0 c0 A1 n1 c1 A2 n2 c2 A3 n3 c3 A4 n4 c4 A5 n5 c5 A6 n6 c6 f0 f1 f2 f3 f4 f5 f6, v = .agg #[.slice A0 n0 c0, .slice A1 n1 c1, .slice A2 n2 c2, .slice A3 n3 c3, .slice A4 n4 c4, .slice A5 n5 c5, .slice A6 n6 c6] ∧ Ia W A0 n0 f0 ∧ Ia W A1 n1 f1 ∧ Ia W A2 n2 f2 ∧ Ia W A3 n3 f3 ∧ Ia W A4 n4 f4 ∧ Ia W A5 n5 f5 ∧ Ia W A6 n6 f6 := by
  obtain ⟨cs, rfl, hsz⟩ := okWide_struct Tryz.underlying44 hv
  obtain ⟨v0, v1, v2, v3, v4, v5, v6, rfl⟩ := array7 (hsz.trans cells44)
  obtain ⟨fuel, hf⟩ := h
  obtain ⟨xs, n, _, hx, hl, hlen, hf⟩ := DataW.trod_struct Tryz.underlying44 hf
  clear hx hl
  match xs, hlen with
  | [y0, y1, y2, y3, y4, y5, y6], _ =>
    obtain ⟨A0, n0, c0, f0, rfl, k0⟩ := ia_of (W := W) (enc := enc) (held := held) (v := v0) (y := y0) (n := n) (by simpa [Value.cells, cells34] using hf 0 _ rfl)
    obtain ⟨A1, n1, c1, f1, rfl, k1⟩ := ia_of (W := W) (enc := enc) (held := held) (v := v1) (y := y1) (n := n) (by simpa [Value.cells, cells34] using hf 1 _ rfl)
    obtain ⟨A2, n2, c2, f2, rfl, k2⟩ := ia_of (W := W) (enc := enc) (held := held) (v := v2) (y := y2) (n := n) (by simpa [Value.cells, cells34] using hf 2 _ rfl)
    obtain ⟨A3, n3, c3, f3, rfl, k3⟩ := ia_of (W := W) (enc := enc) (held := held) (v := v3) (y := y3) (n := n) (by simpa [Value.cells, cells34] using hf 3 _ rfl)
    obtain ⟨A4, n4, c4, f4, rfl, k4⟩ := ia_of (W := W) (enc := enc) (held := held) (v := v4) (y := y4) (n := n) (by simpa [Value.cells, cells34] using hf 4 _ rfl)
    obtain ⟨A5, n5, c5, f5, rfl, k5⟩ := ia_of (W := W) (enc := enc) (held := held) (v := v5) (y := y5) (n := n) (by simpa [Value.cells, cells34] using hf 5 _ rfl)
    obtain ⟨A6, n6, c6, f6, rfl, k6⟩ := ia_of (W := W) (enc := enc) (held := held) (v := v6) (y := y6) (n := n) (by simpa [Value.cells, cells34] using hf 6 _ rfl)
    exact ⟨A0, n0, c0, A1, n1, c1, A2, n2, c2, A3, n3, c3, A4, n4, c4, A5, n5, c5, A6, n6, c6, f0, f1, f2, f3, f4, f5, f6, rfl, k0, k1, k2, k3, k4, k5, k6⟩
set_option maxRecDepth 100000 in
theorem open_flags {r : Reach} {b0 : Nat} {v : Value} {d : DataW H} {ps : List MemPlace} (hv : Value.okWide Tryz.prog W r b0 47 v) (h : DataW.Trod enc Tryz.prog W 0 (fun _ => true) held 47 v d ps) :
    ∃ n g, Bs W v n g := by
  obtain ⟨a0, len, cap, rfl⟩ := okWide_slice Tryz.underlying47 hv
  obtain ⟨fuel, hf⟩ := h
  rcases open_bools Tryz.underlying47 Tryz.underlying4 cells4 hf with ⟨hcs, _⟩ | ⟨a, len', cap', B, hcs, _, hl, _, _, hcell⟩
  · simp [Value.cells] at hcs
    obtain ⟨rfl, rfl, rfl⟩ := hcs
    exact ⟨0, fun _ => false, none, 0, rfl, Nat.le_refl _, fun _ => rfl, fun i hi => by omega⟩
  · simp [Value.cells] at hcs
    obtain ⟨rfl, rfl, rfl⟩ := hcs
    refine ⟨len, B, some a, cap, rfl, hl, (fun h => by cases h), fun i hi => ?_⟩
    obtain ⟨b, off, spot⟩ := a
    have hspot : spot = none := by simpa [Addr.add] using World.cell?_spot (hcell 0 (by omega))
    subst hspot
    refine ⟨b, off, rfl, ?_⟩
    have := hcell i (by omega)
    rw [Addr.add_lit] at this
    exact this


set_option maxRecDepth 100000 in
theorem open_ia {r : Reach} {b0 : Nat} {v : Value} {d : DataW H} {ps : List MemPlace} (hv : Value.okWide Tryz.prog W r b0 34 v) (h : DataW.Trod enc Tryz.prog W 0 (fun _ => true) held 34 v d ps) : ∃ A l c f, v = .slice A l c ∧ Ia W A l f := by
  obtain ⟨a0, len, cap, rfl⟩ := okWide_slice Tryz.underlying34 hv
  obtain ⟨fuel, hf⟩ := h
  exact ia_of (n := fuel) (by simpa [Value.cells] using hf)
theorem cells46 : Tryz.prog.cellsOf 46 = 3 := by kernel_rfl
set_option maxRecDepth 100000 in
theorem open_url {r : Reach} {b0 : Nat} {v : Value} {d : DataW H} {ps : List MemPlace} (hv : Value.okWide Tryz.prog W r b0 46 v) (h : DataW.Trod enc Tryz.prog W 0 (fun _ => true) held 46 v d ps) :
    ∃ A1 n1 c1 A2 n2 c2 A3 n3 c3 f1 f2 f3, v = .agg #[.slice A1 n1 c1, .slice A2 n2 c2, .slice A3 n3 c3] ∧ Ia W A1 n1 f1 ∧ Ia W A2 n2 f2 ∧ Ia W A3 n3 f3 := by
  obtain ⟨v0, v1, v2, y0, y1, y2, n, rfl, _, _, h0, h1, h2⟩ := Joins.open_agg3 Tryz.underlying46 (by kernel_rfl) cells46 hv h
  obtain ⟨A1, n1, c1, f1, rfl, k1⟩ := ia_of h0
  obtain ⟨A2, n2, c2, f2, rfl, k2⟩ := ia_of h1
  obtain ⟨A3, n3, c3, f3, rfl, k3⟩ := ia_of h2
  exact ⟨A1, n1, c1, A2, n2, c2, A3, n3, c3, f1, f2, f3, rfl, k1, k2, k3⟩
end Go.Proofs.YthigandmemifoaaGreatDoor
