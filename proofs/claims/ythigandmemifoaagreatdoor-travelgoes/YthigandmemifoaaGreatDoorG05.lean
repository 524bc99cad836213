/-
  TravelGoes, walked.
-/
import Derived.Test.YthigandmemifoaaGreatDoorG04
import Derived.Test.YthigandmemifoaaGreatDoorP44
import Derived.Test.YthigandmemifoaaGreatDoorP25
namespace Go.Proofs.YthigandmemifoaaGreatDoor
open Go.RowKit Go.PlainAid
set_option maxRecDepth 100000

theorem rt_sz {l : List Rc} (h : rtB l = true) : SzR l := by
  intro r hr
  obtain ⟨i, hi, rfl⟩ := List.getElem_of_mem hr
  have e : l.getD i default = l[i] := by simp [List.getD, hi]
  have hp := rt_par h
  rw [rtB, Bool.and_eq_true, List.all_eq_true] at h
  have := h.2 i (by simpa using hi)
  rw [okR, Bool.and_eq_true, Bool.and_eq_true, Bool.and_eq_true] at this
  rw [e] at this
  refine ⟨by have := tx_le this.1; omega, fun g hg => ?_⟩
  have hm : g ∈ fuL l (i : Nat) := by rw [fu_step hp i hi, e, List.mem_append]; exact Or.inr hg
  have := tx_le (ok_parts this.2.2.2 hm).1
  omega

theorem goS_sz {l : List Rc} (hf : Fit l) (n : Nat) (g : Nat → Bool) (s : ByteArray) : PlSz (goS l n g s).2 := by
  rw [goS]
  by_cases hp : parB s = true
  · rw [if_pos hp]
    rcases goM_ends l n g (par_right hp) with ⟨_, p, q, h', a1, a2, a3, _⟩ | ⟨e, _⟩
    · rw [a3]
      have h1 := right_small a1
      have h2 := fdP_ch hf p q
      rw [fdP_yes q a2] at h2 ⊢
      exact ⟨⟨by have := h1.1; show p.length ≤ _; omega, by have := h1.2.1; show q.length ≤ _; omega⟩, ⟨h2.1, fun x hx => by have := h2.2 x hx; have := hf.1; omega⟩, fdL_len l p⟩
    · rw [e]; exact plSz_zero
  · rw [if_neg hp]; exact plSz_zero
def TgMid (wb : World) (v : Value) (wz : World) : Prop := ∃ sx : ByteArray, v = .string sx ∧ sx.size ≤ 10000 ∧ Below wb.heap.size wb wz

set_option maxHeartbeats 25600000 in
theorem travelGoes4 (w : World) (raw : ByteArray) (own : Bool) {A0 A1 A2 A3 A4 A5 A6 D1 D2 D3 : Option Addr} {n0 n1 n2 n3 n4 n5 n6 c0 c1 c2 c3 c4 c5 c6 m1 m2 m3 e1 e2 e3 nf : Nat} {f0 f1 f2 f3 f4 f5 f6 g1 g2 g3 : Nat → Int} {fv : Value} {g : Nat → Bool} (h0 : Ia w A0 n0 f0) (h1 : Ia w A1 n1 f1) (h2 : Ia w A2 n2 f2) (h3 : Ia w A3 n3 f3) (h4 : Ia w A4 n4 f4) (h5 : Ia w A5 n5 f5) (h6 : Ia w A6 n6 f6) (u1 : Ia w D1 m1 g1) (u2 : Ia w D2 m2 g2) (u3 : Ia w D3 m3 g3) (k0 : Bs w fv nf g) :
    Calls Tryz.prog 4 #[.agg #[.slice A0 n0 c0, .slice A1 n1 c1, .slice A2 n2 c2, .slice A3 n3 c3, .slice A4 n4 c4, .slice A5 n5 c5, .slice A6 n6 c6], .agg #[.slice D1 m1 e1, .slice D2 m2 e2, .slice D3 m3 e3], .string raw, fv, .bool own] w fun e w' => e = .returned (.bool true) ∧ Below w.heap.size w w' := by
  obtain ⟨Af, cf, rfl⟩ := k0.shape
  have hcA : (0 : Int) ≤ min (nf : Int) 6 := by omega
  have hcB : min (nf : Int) 6 ≤ (cf : Int) := by have := k0.cap; omega
  have hcC : (min (nf : Int) 6).toNat ≤ nf := by omega
  have hrA : (0 : Int) ≤ min (raw.size : Int) 60 := by omega
  have hrB : min (raw.size : Int) 60 ≤ (raw.size : Int) := by omega
  have HB := Lib.hid (((Below.refl w.heap.size w).alloc (Nat.le_refl _) (.cells #[.slice A0 n0 c0, .slice A1 n1 c1, .slice A2 n2 c2, .slice A3 n3 c3, .slice A4 n4 c4, .slice A5 n5 c5, .slice A6 n6 c6] 44 (0, 0))).alloc (by simp) (.cells #[.slice D1 m1 e1, .slice D2 m2 e2, .slice D3 m3 e3] 46 (0, 0)))
  have XK := Lib.hid (blk_alloc (blk_new w (.cells #[.slice A0 n0 c0, .slice A1 n1 c1, .slice A2 n2 c2, .slice A3 n3 c3, .slice A4 n4 c4, .slice A5 n5 c5, .slice A6 n6 c6] 44 (0, 0))) (.cells #[.slice D1 m1 e1, .slice D2 m2 e2, .slice D3 m3 e3] 46 (0, 0)))
  have XU := Lib.hid (blk_new1 w (.cells #[.slice A0 n0 c0, .slice A1 n1 c1, .slice A2 n2 c2, .slice A3 n3 c3, .slice A4 n4 c4, .slice A5 n5 c5, .slice A6 n6 c6] 44 (0, 0)) (.cells #[.slice D1 m1 e1, .slice D2 m2 e2, .slice D3 m3 e3] 46 (0, 0)))
  have HRC := Lib.hid (records7 ((w.alloc (.cells #[.slice A0 n0 c0, .slice A1 n1 c1, .slice A2 n2 c2, .slice A3 n3 c3, .slice A4 n4 c4, .slice A5 n5 c5, .slice A6 n6 c6] 44 (0, 0))).alloc (.cells #[.slice D1 m1 e1, .slice D2 m2 e2, .slice D3 m3 e3] 46 (0, 0))) (c0 := c0) (c1 := c1) (c2 := c2) (c3 := c3) (c4 := c4) (c5 := c5) (c6 := c6) (h0.call HB.out) (h1.call HB.out) (h2.call HB.out) (h3.call HB.out) (h4.call HB.out) (h5.call HB.out) (h6.call HB.out))
  have V1 := Lib.hid (u1.call HB.out)
  have V2 := Lib.hid (u2.call HB.out)
  have V3 := Lib.hid (u3.call HB.out)
  have HF := Lib.hid (k0.call HB.out)
  clear h0 h1 h2 h3 h4 h5 h6 u1 u2 u3 k0
  go_enter Tryz.func4, Tryz.ntmps4
  go_upto_region 1 with fail
  generalize (w.alloc (.cells #[.slice A0 n0 c0, .slice A1 n1 c1, .slice A2 n2 c2, .slice A3 n3 c3, .slice A4 n4 c4, .slice A5 n5 c5, .slice A6 n6 c6] 44 (0, 0))).alloc (.cells #[.slice D1 m1 e1, .slice D2 m2 e2, .slice D3 m3 e3] 46 (0, 0)) = w1 at *
  have x0 : w1.cell? ⟨w.heap.size, 0, none⟩ = some (.slice A0 n0 c0) := by rw [blk_cell XK.out]; rfl
  have x1 : w1.cell? ⟨w.heap.size, 1, none⟩ = some (.slice A1 n1 c1) := by rw [blk_cell XK.out]; rfl
  have x2 : w1.cell? ⟨w.heap.size, 2, none⟩ = some (.slice A2 n2 c2) := by rw [blk_cell XK.out]; rfl
  have x3 : w1.cell? ⟨w.heap.size, 3, none⟩ = some (.slice A3 n3 c3) := by rw [blk_cell XK.out]; rfl
  have x4 : w1.cell? ⟨w.heap.size, 4, none⟩ = some (.slice A4 n4 c4) := by rw [blk_cell XK.out]; rfl
  have x5 : w1.cell? ⟨w.heap.size, 5, none⟩ = some (.slice A5 n5 c5) := by rw [blk_cell XK.out]; rfl
  have x6 : w1.cell? ⟨w.heap.size, 6, none⟩ = some (.slice A6 n6 c6) := by rw [blk_cell XK.out]; rfl
  go_upto_region 2 with (first | (go_at_call 10; refine HRC.out.mono ?_; rintro e w2 ⟨v1, L, ds, rfl, ho, hok⟩; have HO := Lib.hid ho.rs; have B2 := Lib.hid ho.below; have HK := Lib.hid hok; obtain ⟨P4, p4, q4, e4⟩ := ho.shape; subst e4; clear ho hok))
  clear x0 x1 x2 x3 x4 x5 x6 XK HRC
  have XU2 := Lib.hid (blk_call XU.out B2.out)
  have y0 : w2.cell? ⟨w.heap.size + 1, 0, none⟩ = some (.slice D1 m1 e1) := by rw [blk_cell XU2.out]; rfl
  have y1 : w2.cell? ⟨w.heap.size + 1, 1, none⟩ = some (.slice D2 m2 e2) := by rw [blk_cell XU2.out]; rfl
  have y2 : w2.cell? ⟨w.heap.size + 1, 2, none⟩ = some (.slice D3 m3 e3) := by rw [blk_cell XU2.out]; rfl
  have HUC := Lib.hid (url13 D1 D2 D3 m1 e1 m2 e2 m3 e3 g1 g2 g3 w2 (V1.out.call B2.out) (V2.out.call B2.out) (V3.out.call B2.out))
  have HF2 := Lib.hid ((HF.out.call B2.out).take _ hcC)
  have B02 := Lib.hid (HB.out.trans (B2.out.mono HB.out.size))
  clear HF HB B2 V1 V2 V3 XU
  go_upto_if 30 with fail
  have HRZ : Hid ((raw.extract 0 (min (raw.size : Int) 60).toNat).size ≤ 10000) := by show _ ≤ _; rw [ByteArray.size_extract]; omega
  go_cut [13] (fun s13 wz => Hid (TgMid w2 s13 wz))
  case first =>
    cases own
    · go_wp2_with fail
      go_meet
      exact ⟨_, rfl, HRZ.out, Below.refl _ _⟩
    · go_wp2_with (first
        | (go_at_call 11; refine HUC.out.mono ?_; rintro e w3 ⟨v1, v2, p, q9, rfl, h3, h4, h5, hb3⟩; have HP := Lib.hid h3; have HQ := Lib.hid h4; have B3 := Lib.hid hb3; obtain ⟨A3', n3', c3', e3'⟩ := h3.shape; obtain ⟨A4', n4', c4', e4'⟩ := h4.shape; subst e3' e4'; clear h3 h4 h5 hb3)
        | (go_at_call 8; refine (print12 _ _ p q9 _ HP.out HQ.out).mono ?_; rintro e w4 ⟨rfl, hb4⟩; have B4 := Lib.hid (B3.out.trans (hb4.mono B3.out.size)); clear hb4))
      go_meet
      exact ⟨_, rfl, by have := prn_size' p q9; omega, B4.out⟩
  case rest =>
    obtain ⟨sx, rfl, hsx, hbel⟩ := hcut.out
    clear hcut HUC y0 y1 y2 HRZ hrA hrB
    generalize wc = w3 at *
    have B3 := Lib.hid hbel
    have HX := Lib.hid hsx
    clear hbel hsx
    have B03 := Lib.hid (B02.out.trans (B3.out.mono B02.out.size))
    have HS3 := Lib.hid (HO.out.call B3.out)
    have HF3 := Lib.hid (HF2.out.call B3.out)
    clear HO HF2 XU2 B02 B3
    generalize (min (nf : Int) 6).toNat = nk at *
    clear hcA hcB hcC
    have HG := Lib.hid (go7 _ L sx _ nk g w3 HS3.out HK.out.fit HX.out HF3.out)
    have HT := Lib.hid (fun (W : World) hb => refTravel12 _ L sx _ nk g W (HS3.out.call (w' := W) hb) HK.out.fit (rt_sz HK.out.right) HX.out (HF3.out.call hb))
    have HZ := Lib.hid (goS_sz HK.out.fit nk g sx)
    generalize goS L nk g sx = R at *
    have hre : (R.1 == R.1) = true := by simp
    go_upto_region 7 with (first | (go_at_call 7; refine HG.out.mono ?_; rintro e w4 ⟨v1, v2, v3, v4, rfl, hp, hb⟩; have HP4 := Lib.hid hp; have B4 := Lib.hid hb; obtain ⟨p1, p5, pa, p2, p6, pb, p3, p7, pc, p4', p8, pd, q1, q2, q3, q4'⟩ := hp.shape; subst q1 q2 q3 q4'; clear hp hb))
    have D45 := Lib.hid ((Below.refl w4.heap.size w4).alloc (Nat.le_refl _) (.cells #[.slice p1 p5 pa, .slice p2 p6 pb, .int .i64 R.2.i, .slice p3 p7 pc, .slice p4' p8 pd, .int .i64 R.2.h] 36 (0, 0)))
    have X14 := Lib.hid (blk_new w4 (.cells #[.slice p1 p5 pa, .slice p2 p6 pb, .int .i64 R.2.i, .slice p3 p7 pc, .slice p4' p8 pd, .int .i64 R.2.h] 36 (0, 0)))
    generalize w4.alloc (.cells #[.slice p1 p5 pa, .slice p2 p6 pb, .int .i64 R.2.i, .slice p3 p7 pc, .slice p4' p8 pd, .int .i64 R.2.h] 36 (0, 0)) = w5 at *
    have B5 := Lib.hid (B4.out.trans (D45.out.mono B4.out.size))
    have HP5 := Lib.hid (HP4.out.call D45.out)
    clear HG HP4 B4 D45
    generalize w4.heap.size = X at *
    go_upto_region 8 with (first | (go_at_call 12; refine (HT.out _ B5.out).mono ?_; rintro e w6 ⟨v1, v2, v3, v4, rfl, hp, hb⟩; have HP6 := Lib.hid hp; have D56 := Lib.hid hb; obtain ⟨r1, r5, ra, r2, r6, rb, r3, r7, rc, r4, r8, rd, q1, q2, q3, q4'⟩ := hp.shape; subst q1 q2 q3 q4'; clear hp hb))
    have D67 := Lib.hid ((Below.refl w6.heap.size w6).alloc (Nat.le_refl _) (.cells #[.slice r1 r5 ra, .slice r2 r6 rb, .int .i64 R.2.i, .slice r3 r7 rc, .slice r4 r8 rd, .int .i64 R.2.h] 50 (0, 0)))
    have X16 := Lib.hid (blk_new w6 (.cells #[.slice r1 r5 ra, .slice r2 r6 rb, .int .i64 R.2.i, .slice r3 r7 rc, .slice r4 r8 rd, .int .i64 R.2.h] 50 (0, 0)))
    generalize w6.alloc (.cells #[.slice r1 r5 ra, .slice r2 r6 rb, .int .i64 R.2.i, .slice r3 r7 rc, .slice r4 r8 rd, .int .i64 R.2.h] 50 (0, 0)) = w7 at *
    have D57 := Lib.hid (D56.out.trans (D67.out.mono D56.out.size))
    have B7 := Lib.hid (B5.out.trans (D57.out.mono B5.out.size))
    have HSM := Lib.hid (same13 _ _ _ _ _ _ _ _ R.2 w7 (HP5.out.call D57.out) (HP6.out.call D67.out) HZ.out)
    obtain ⟨⟨k0, k1, k2, k3, k4, k5⟩, -⟩ := blk6 (blk_call X14.out D57.out)
    obtain ⟨⟨z0, z1, z2, z3, z4, z5⟩, -⟩ := blk6 X16.out
    clear HP5 HP6 HT D56 D67 B5
    generalize w6.heap.size = Y at *
    go_wp2_with (first
      | (go_at_call 13; refine HSM.out.mono ?_; rintro e w8 ⟨rfl, hb⟩; have B8 := Lib.hid (B7.out.trans (hb.mono B7.out.size)); clear hb)
      | (go_at_call 3; refine (travelRuns_any _).mono ?_; rintro e w9 ⟨rfl, hb⟩; have B9 := Lib.hid (B8.out.trans (hb.mono B8.out.size)); clear hb))
    go_ret
    exact ⟨rfl, B03.out.trans (B9.out.mono B03.out.size)⟩
end Go.Proofs.YthigandmemifoaaGreatDoor
