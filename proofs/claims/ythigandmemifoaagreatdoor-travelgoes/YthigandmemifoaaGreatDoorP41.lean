/-
  Put together: TvE.
-/
import Derived.Test.YthigandmemifoaaGreatDoorP38
import Derived.Test.YthigandmemifoaaGreatDoorP40
import Derived.Test.YthigandmemifoaaGreatDoorP09
namespace Go.Proofs.YthigandmemifoaaGreatDoor
open Go.RowKit Go.PlainAid
set_option maxRecDepth 100000

set_option maxHeartbeats 3200000 in
theorem sameU34 (v1 v2 u1 u2 : Value) (p : List ByteArray) (q : List Pr) (w : World) (h1 : Ss w v1 p) (h2 : Ps w v2 q) (k1 : Ss w u1 p) (k2 : Ps w u2 q) (hz : p.length ≤ 100000 ∧ q.length ≤ 100000) :
    Calls Tryz.prog 34 #[.agg #[v1, v2], .agg #[u1, u2]] w fun e w' => e = .returned (.bool true) ∧ Below w.heap.size w w' := by
  have H1 := Lib.hid h1
  have H2 := Lib.hid h2
  have K1 := Lib.hid k1
  have K2 := Lib.hid k2
  obtain ⟨A1, n1, c1, rfl⟩ := h1.shape
  obtain ⟨A2, n2, c2, rfl⟩ := h2.shape
  obtain ⟨A3, n3, c3, rfl⟩ := k1.shape
  obtain ⟨A4, n4, c4, rfl⟩ := k2.shape
  clear h1 h2 k1 k2
  have HX := Lib.hid (blk_alloc (blk_new w (.cells #[.slice A1 n1 c1, .slice A2 n2 c2] 33 (0, 0))) (.cells #[.slice A3 n3 c3, .slice A4 n4 c4] 33 (0, 0)))
  have HY := Lib.hid (blk_new1 w (.cells #[.slice A1 n1 c1, .slice A2 n2 c2] 33 (0, 0)) (.cells #[.slice A3 n3 c3, .slice A4 n4 c4] 33 (0, 0)))
  have HB := Lib.hid (((Below.refl w.heap.size w).alloc (Nat.le_refl _) (.cells #[.slice A1 n1 c1, .slice A2 n2 c2] 33 (0, 0))).alloc (by simp) (.cells #[.slice A3 n3 c3, .slice A4 n4 c4] 33 (0, 0)))
  have HZ := Lib.hid hz
  clear hz
  go_enter Tryz.func34, Tryz.ntmps34
  go_wp2_with fail
  generalize (w.alloc (.cells #[.slice A1 n1 c1, .slice A2 n2 c2] 33)).alloc (.cells #[.slice A3 n3 c3, .slice A4 n4 c4] 33) = w5 at *
  refine (equal31 _ _ _ _ _ (H1.out.call HB.out) (K1.out.call HB.out) HZ.out.1).mono ?_
  rintro e w1 ⟨rfl, b1⟩
  rw [decide_eq_true rfl]
  obtain ⟨x0, x1, _, _⟩ := blk2 (blk_call HX.out b1)
  obtain ⟨y0, y1, _, _⟩ := blk2 (blk_call HY.out b1)
  have HB1 := Lib.hid (HB.out.trans (b1.mono HB.out.size))
  clear b1
  go_wp2_with fail
  refine (equal32 _ _ _ _ _ (H2.out.call HB1.out) (K2.out.call HB1.out) HZ.out.2).mono ?_
  rintro e w2 ⟨rfl, b2⟩
  rw [decide_eq_true rfl]
  have HB2 := Lib.hid (HB1.out.trans (b2.mono HB1.out.size))
  clear b2
  go_wp2
  go_ret
  exact ⟨rfl, HB2.out⟩

theorem sameIeq (v1 v2 : Value) (a : List Nat) (w : World) (h1 : Ni w v1 a) (h2 : Ni w v2 a) (hz : a.length ≤ 1000) : Calls Tryz.prog 35 #[v1, v2] w fun e w' => e = .returned (.bool true) ∧ Below w.heap.size w w' := by
  refine (sameI16 v1 v2 a a w h1 h2 hz hz).mono ?_
  rintro e w' ⟨rfl, h⟩
  exact ⟨by simp, drB h _⟩
theorem samePeq (v1 v2 : Value) (a : List Pr) (w : World) (h1 : Ps w v1 a) (h2 : Ps w v2 a) (hz : a.length ≤ 1000000000) : Calls Tryz.prog 16 #[v1, v2] w fun e w' => e = .returned (.bool true) ∧ Below w.heap.size w w' := by
  refine (sameP v1 v2 a a w h1 h2 hz).mono ?_
  rintro e w' ⟨rfl, h⟩
  exact ⟨by simp, h⟩
def PlSz (pl : Pl) : Prop := (pl.p.length ≤ 100000 ∧ pl.q.length ≤ 100000) ∧ (pl.c.length ≤ 1000 ∧ ∀ x ∈ pl.c, x ≤ 1000) ∧ pl.m.length ≤ 1000000000
set_option maxHeartbeats 6400000 in
theorem same13 (v1 v2 v3 v4 u1 u2 u3 u4 : Value) (pl : Pl) (w : World) (h : PlOk w v1 v2 v3 v4 pl) (k : PlOk w u1 u2 u3 u4 pl) (hz : PlSz pl) :
    Calls Tryz.prog 13 #[.agg #[v1, v2, .int .i64 pl.i, v3, v4, .int .i64 pl.h], .agg #[u1, u2, .int .i64 pl.i, u3, u4, .int .i64 pl.h]] w fun e w' => e = .returned (.bool true) ∧ Below w.heap.size w w' := by
  have H := Lib.hid h
  have K := Lib.hid k
  have HZ := Lib.hid hz
  obtain ⟨A1, n1, c1, A2, n2, c2, A3, n3, c3, A4, n4, c4, rfl, rfl, rfl, rfl⟩ := h.shape
  obtain ⟨B1, m1, d1, B2, m2, d2, B3, m3, d3, B4, m4, d4, rfl, rfl, rfl, rfl⟩ := k.shape
  clear h k hz
  have HX := Lib.hid (blk_alloc (blk_new w (.cells #[.slice A1 n1 c1, .slice A2 n2 c2, .int .i64 pl.i, .slice A3 n3 c3, .slice A4 n4 c4, .int .i64 pl.h] 36 (0, 0))) (.cells #[.slice B1 m1 d1, .slice B2 m2 d2, .int .i64 pl.i, .slice B3 m3 d3, .slice B4 m4 d4, .int .i64 pl.h] 50 (0, 0)))
  have HY := Lib.hid (blk_new1 w (.cells #[.slice A1 n1 c1, .slice A2 n2 c2, .int .i64 pl.i, .slice A3 n3 c3, .slice A4 n4 c4, .int .i64 pl.h] 36 (0, 0)) (.cells #[.slice B1 m1 d1, .slice B2 m2 d2, .int .i64 pl.i, .slice B3 m3 d3, .slice B4 m4 d4, .int .i64 pl.h] 50 (0, 0)))
  have HB := Lib.hid (((Below.refl w.heap.size w).alloc (Nat.le_refl _) (.cells #[.slice A1 n1 c1, .slice A2 n2 c2, .int .i64 pl.i, .slice A3 n3 c3, .slice A4 n4 c4, .int .i64 pl.h] 36 (0, 0))).alloc (by simp) (.cells #[.slice B1 m1 d1, .slice B2 m2 d2, .int .i64 pl.i, .slice B3 m3 d3, .slice B4 m4 d4, .int .i64 pl.h] 50 (0, 0)))
  go_enter Tryz.func13, Tryz.ntmps13
  go_upto_region 1 with fail
  generalize (w.alloc (.cells #[.slice A1 n1 c1, .slice A2 n2 c2, .int .i64 pl.i, .slice A3 n3 c3, .slice A4 n4 c4, .int .i64 pl.h] 36 (0, 0))).alloc (.cells #[.slice B1 m1 d1, .slice B2 m2 d2, .int .i64 pl.i, .slice B3 m3 d3, .slice B4 m4 d4, .int .i64 pl.h] 50 (0, 0)) = w5 at *
  have H5 := Lib.hid (H.out.call HB.out)
  have K5 := Lib.hid (K.out.call HB.out)
  obtain ⟨⟨x0, x1, x2, x3, x4, x5⟩, -⟩ := blk6 HX.out
  obtain ⟨⟨y0, y1, y2, y3, y4, y5⟩, -⟩ := blk6 HY.out
  have HSU := Lib.hid (sameU34 _ _ _ _ pl.p pl.q w5 H5.out.1 H5.out.2.1 K5.out.1 K5.out.2.1 HZ.out.1)
  have HSI := Lib.hid (fun (W : World) (hb : Below w5.heap.size w5 W) => sameIeq _ _ pl.c W (H5.out.2.2.1.1.call hb) (K5.out.2.2.1.1.call hb) HZ.out.2.1.1)
  have HSM := Lib.hid (fun (W : World) (hb : Below w5.heap.size w5 W) => samePeq _ _ pl.m W (H5.out.2.2.2.call hb) (K5.out.2.2.2.call hb) HZ.out.2.2)
  go_wp2_with (first
    | (go_at_call 34; refine HSU.out.mono ?_; rintro e w6 ⟨rfl, b6⟩; have B6 := Lib.hid b6; obtain ⟨⟨x0, x1, x2, x3, x4, x5⟩, -⟩ := blk6 (blk_call HX.out b6); obtain ⟨⟨y0, y1, y2, y3, y4, y5⟩, -⟩ := blk6 (blk_call HY.out b6); clear b6)
    | (go_at_call 35; refine (HSI.out _ B6.out).mono ?_; rintro e w7 ⟨rfl, b7⟩; have B7 := Lib.hid (B6.out.trans (b7.mono B6.out.size)); obtain ⟨⟨x0, x1, x2, x3, x4, x5⟩, -⟩ := blk6 (blk_call HX.out B7.out); obtain ⟨⟨y0, y1, y2, y3, y4, y5⟩, -⟩ := blk6 (blk_call HY.out B7.out); clear b7)
    | (go_at_call 16; refine (HSM.out _ B7.out).mono ?_; rintro e w8 ⟨rfl, b8⟩; have B8 := Lib.hid (B7.out.trans (b8.mono B7.out.size)); obtain ⟨⟨x0, x1, x2, x3, x4, x5⟩, -⟩ := blk6 (blk_call HX.out B8.out); obtain ⟨⟨y0, y1, y2, y3, y4, y5⟩, -⟩ := blk6 (blk_call HY.out B8.out); clear b8))
  go_ret
  exact ⟨rfl, HB.out.trans (B8.out.mono HB.out.size)⟩
end Go.Proofs.YthigandmemifoaaGreatDoor
