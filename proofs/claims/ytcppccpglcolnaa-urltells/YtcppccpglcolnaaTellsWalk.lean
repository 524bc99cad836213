/-
  URLTells, walked.
-/
import Derived.Test.YtcppccpglcolnaaBackWalk
import Derived.Test.YtcppccpglcolnaaRefParse
import Derived.Test.YtcppccpglcolnaaRefPrint
import Derived.Deep.RegionHeld3
namespace Go.Proofs.Ytcppccpglcolnaa
open Go.RowKit Go.PlainAid

theorem gt_step (R : List Pr) (n : ByteArray) (k : Nat) (h : k < R.length) : ((R.getD k default).1 = n → gtS (R.drop k) n = (R.getD k default).2 ∧ gtB (R.drop k) n = true) ∧ (¬ (R.getD k default).1 = n → gtS (R.drop k) n = gtS (R.drop (k + 1)) n ∧ gtB (R.drop k) n = gtB (R.drop (k + 1)) n) := by
  have e : R.drop k = R.getD k default :: R.drop (k + 1) := by
    rw [List.drop_eq_getElem_cons h]
    simp [List.getD, h]
  rw [e]
  generalize R.getD k default = x
  constructor
  · intro hx
    simp [gtS, gtB, gtF, hx]
  · intro hx
    simp [gtS, gtB, gtF, hx]

set_option maxRecDepth 100000 in
set_option maxHeartbeats 6400000 in
theorem tells_any (A1 A2 A3 A4 : Option Addr) (n1 c1 n2 c2 n3 c3 n4 c4 : Nat) (p : List ByteArray) (q : List Pr) (p' : List ByteArray) (q' : List Pr) (s s' nm : ByteArray) (w : World)
    (h1 : Sa w A1 n1 c1 p) (h2 : Pa w A2 n2 c2 q) (h3 : Sa w A3 n3 c3 p') (h4 : Pa w A4 n4 c4 q') (m : Nat)
    (e1 : (if (120 : Int) < (s.size : Int) then (120 : Int) else (s.size : Int)) = (m : Int)) (f1 : (0 : Int) ≤ (m : Int)) (f3 : (m : Int) ≤ (s.size : Int)) (hs : Hid (s.extract 0 m = s')) (hz : s'.size ≤ 120) :
    Calls Try.prog 4 #[.agg #[.slice A1 n1 c1, .slice A2 n2 c2], .agg #[.slice A3 n3 c3, .slice A4 n4 c4], .string s, .string nm] w fun e w' => e = .returned (.bool true) ∧ Below w.heap.size w w' := by
  have H1 := Lib.hid h1
  have H2 := Lib.hid h2
  have H3 := Lib.hid h3
  have H4 := Lib.hid h4
  clear h1 h2 h3 h4
  have HX := Lib.hid (blk_alloc (blk_new w (.cells #[.slice A1 n1 c1, .slice A2 n2 c2] 25 (0, 0))) (.cells #[.slice A3 n3 c3, .slice A4 n4 c4] 25 (0, 0)))
  have HY := Lib.hid (blk_new1 w (.cells #[.slice A1 n1 c1, .slice A2 n2 c2] 25 (0, 0)) (.cells #[.slice A3 n3 c3, .slice A4 n4 c4] 25 (0, 0)))
  have HB := Lib.hid (((Below.refl w.heap.size w).alloc (Nat.le_refl _) (.cells #[.slice A1 n1 c1, .slice A2 n2 c2] 25 (0, 0))).alloc (by simp) (.cells #[.slice A3 n3 c3, .slice A4 n4 c4] 25 (0, 0)))
  go_enter Try.func4, Try.ntmps4
  go_wp2_with fail
  generalize (w.alloc (.cells #[.slice A1 n1 c1, .slice A2 n2 c2] 25)).alloc (.cells #[.slice A3 n3 c3, .slice A4 n4 c4] 25) = w5 at *
  go_cut [2] from 18 (fun v wc => v = .string s' ∧ Cut w w.heap.size (w.heap.size + 1) (p.take 9) (q.take 9) (p'.take 9) (q'.take 9) wc)
  case first =>
    obtain ⟨x0, x1, x2, x3⟩ := blk2 HX.out
    obtain ⟨y0, y1, y2, y3⟩ := blk2 HY.out
    have lt5 := blk_lt HY.out
    have P1 := Lib.hid (H1.out.call HB.out)
    have P2 := Lib.hid (H2.out.call HB.out)
    have P3 := Lib.hid (H3.out.call HB.out)
    have P4 := Lib.hid (H4.out.call HB.out)
    go_region_with (first
      | (go_at_call_of 13 A1; go_must (refine (few13 A1 A2 n1 c1 n2 c2 p q _ (P1.out.call (Below.refl _ _).drew) (P2.out.call (Below.refl _ _).drew)).mono ?_); rintro e w6 ⟨v1, v2, rfl, k1, k2, k3⟩; obtain ⟨B1, j1, i1, rfl⟩ := k1.shape; obtain ⟨B2, j2, i2, rfl⟩ := k2.shape; have K1 := Lib.hid k1; have K2 := Lib.hid k2; have K3 := Lib.hid (((Below.refl w5.heap.size w5).drew).trans k3); clear k1 k2 k3; obtain ⟨x0, x1, x2, x3⟩ := blk2 (blk_call HX.out K3.out); obtain ⟨y0, y1, y2, y3⟩ := blk2 (blk_call HY.out K3.out))
      | (go_at_call_of 13 A3; refine (few13 A3 A4 n3 c3 n4 c4 p' q' _ (P3.out.call K3.out) (P4.out.call K3.out)).mono ?_; rintro e w7 ⟨v3, v4, rfl, k1, k2, k3⟩; obtain ⟨B3, j3, i3, rfl⟩ := k1.shape; obtain ⟨B4, j4, i4, rfl⟩ := k2.shape; have K4 := Lib.hid k1; have K5 := Lib.hid k2; have K6 := Lib.hid k3; clear k1 k2 k3; obtain ⟨x0, x1, x2, x3⟩ := blk2 (blk_call (blk_call HX.out K3.out) K6.out); obtain ⟨y0, y1, y2, y3⟩ := blk2 (blk_call (blk_call HY.out K3.out) K6.out)))
    all_goals
      go_wp2_with fail
      go_meet
      exact ⟨by rw [hs.out], cut_end (blk_call (blk_call HX.out K3.out) K6.out) (blk_call (blk_call HY.out K3.out) K6.out) (by omega) (K1.out.call K6.out) (K2.out.call K6.out) K4.out K5.out ((HB.out.trans (K3.out.mono HB.out.size)).trans (K6.out.mono (by have := HB.out.size; have := K3.out.size; omega))) (by omega) (by omega)⟩
  case rest =>
    obtain ⟨rfl, U1, a1, b1, U2, a2, b2, U3, a3, b3, U4, a4, b4, kX, kY, k1, k2, k3, k4, kb⟩ := hcut
    have ln : (p.take 9).length ≤ 9 ∧ (q.take 9).length ≤ 9 ∧ (p'.take 9).length ≤ 9 ∧ (q'.take 9).length ≤ 9 := by simp only [List.length_take]; omega
    obtain ⟨l1, l2, l3, l4⟩ := ln
    have KX := Lib.hid kX
    have KY := Lib.hid kY
    have K1 := Lib.hid k1
    have K2 := Lib.hid k2
    have K3 := Lib.hid k3
    have K4 := Lib.hid k4
    have KB := Lib.hid kb
    clear kX kY k1 k2 k3 k4 kb H1 H2 H3 H4 HX HY HB e1 f1 f3 hs
    generalize p.take 9 = P at *
    generalize q.take 9 = R at *
    generalize p'.take 9 = P' at *
    generalize q'.take 9 = R' at *
    generalize w.heap.size + 1 = Y at *
    have ln : (parP s').length ≤ 100000 ∧ (parQ s').length ≤ 100000 := by
      by_cases h : parB s' = true
      · have := right_small (par_right h); omega
      · have := par_none (s := s') (by simpa using h)
        rw [this.1, this.2]; simp
    have LN := Lib.hid ln
    clear ln
    generalize hpp : parP s' = P2 at *
    generalize hqq : parQ s' = Q2 at *
    have HPP := Lib.hid hpp
    have HQQ := Lib.hid hqq
    clear hpp hqq
    generalize her : erI (parB s') = er at *
    have HER := Lib.hid her
    clear her
    go_wp2_with fail
    refine (parse9 _ _ (by omega)).mono ?_
    rintro e w4 ⟨v1, v2, rfl, g1, g2, g3⟩
    rw [HER.out]
    rw [HPP.out] at g1
    rw [HQQ.out] at g2
    obtain ⟨V1, d1, e1, rfl⟩ := g1.shape
    obtain ⟨V2, d2, e2, rfl⟩ := g2.shape
    have N4 := Lib.hid (blk_new w4 (.cells #[.slice V1 d1 e1, .slice V2 d2 e2] 25 (0, 0)))
    have GB := Lib.hid ((Below.refl w4.heap.size w4).alloc (Nat.le_refl _) (.cells #[.slice V1 d1 e1, .slice V2 d2 e2] 25 (0, 0)))
    have G1 := Lib.hid (g1.call GB.out)
    have G2 := Lib.hid (g2.call GB.out)
    have T5 := Lib.hid (g3.trans (GB.out.mono g3.size))
    clear g1 g2 g3
    go_wp2_with fail
    generalize w4.alloc (.cells #[.slice V1 d1 e1, .slice V2 d2 e2] 25) = w5 at *
    refine (parse14 _ _ (by omega)).mono ?_
    rintro e w6 ⟨v1, v2, rfl, g1, g2, g3⟩
    rw [HER.out]
    rw [HPP.out] at g1
    rw [HQQ.out] at g2
    obtain ⟨V3, d3, e3, rfl⟩ := g1.shape
    obtain ⟨V4, d4, e4, rfl⟩ := g2.shape
    have N6 := Lib.hid (blk_new w6 (.cells #[.slice V3 d3 e3, .slice V4 d4 e4] 25 (0, 0)))
    have GB6 := Lib.hid ((Below.refl w6.heap.size w6).alloc (Nat.le_refl _) (.cells #[.slice V3 d3 e3, .slice V4 d4 e4] 25 (0, 0)))
    have G3 := Lib.hid (g1.call GB6.out)
    have G4 := Lib.hid (g2.call GB6.out)
    have T7 := Lib.hid (g3.trans (GB6.out.mono g3.size))
    have T57 := Lib.hid (T5.out.trans ((g3.trans (GB6.out.mono g3.size)).mono T5.out.size))
    clear g1 g2 g3
    have KX7 := Lib.hid (blk_call KX.out T57.out)
    obtain ⟨x0, x1, _, _⟩ := blk2 (show (w6.alloc (.cells #[.slice V3 d3 e3, .slice V4 d4 e4] 25 (0, 0))).heap[w.heap.size]? = _ from KX7.out)
    go_wp2_with fail
    generalize w6.alloc (.cells #[.slice V3 d3 e3, .slice V4 d4 e4] 25) = w7 at *
    have KY7 := Lib.hid (blk_call KY.out T57.out)
    have K1w := Lib.hid (K1.out.call T57.out)
    have K2w := Lib.hid (K2.out.call T57.out)
    have K3w := Lib.hid (K3.out.call T57.out)
    have K4w := Lib.hid (K4.out.call T57.out)
    have G1w := Lib.hid (G1.out.call T7.out)
    have G2w := Lib.hid (G2.out.call T7.out)
    have N4w := Lib.hid (blk_call N4.out T7.out)
    have KBw := Lib.hid (KB.out.trans (T57.out.mono KB.out.size))
    clear K1 K2 K3 K4 G1 G2 N4 KX KY KB T5 T7 T57 GB GB6
    obtain ⟨A5, cap5, hv5, _, _, hc5⟩ := K2w.out
    simp only [Value.slice.injEq] at hv5
    obtain ⟨rfl, rfl, rfl⟩ := hv5
    have HC5 := Lib.hid hc5
    clear hc5
    have hwr : wrap64 ((R.length : Int) - 1) = (R.length : Int) - 1 := by unfold wrap64; omega
    rw [hwr]
    clear hwr
    go_loopw [13, 14, 15] (fun v t i wr => ∃ (j : Nat), j ≤ R.length ∧ i = .int .i64 ((j : Int) - 1) ∧ v = .string (gtS (R.drop j) nm) ∧ t = .bool (gtB (R.drop j) nm) ∧ wr = w7) (fun _ _ i _ => ((intOf i) + 1).toNat)
    case atStart => exact ⟨R.length, Nat.le_refl _, rfl, by rw [List.drop_length]; rfl, by rw [List.drop_length]; rfl, rfl⟩
    case round =>
      obtain ⟨j, hj, rfl, rfl, rfl, hwq⟩ := hrel
      have hwq := hwq.symm
      subst hwq
      by_cases hj0 : j = 0
      · subst hj0
        rw [List.drop_zero]
        have c0 : ¬ (0 : Int) ≤ ((0 : Nat) : Int) - 1 := by omega
        go_wp2_with (go_at_call 15; refine (get15 _ _ _ _ _ _ K1w.out K2w.out (by omega)).mono ?_; rintro e w8 ⟨rfl, h8⟩; have H8 := Lib.hid h8; clear h8)
        have KS : Hid (∀ w' : World, Below w8.heap.size w8 w' → w'.cell? ⟨w.heap.size, 0, none⟩ = some (.slice U1 a1 b1) ∧ w'.cell? ⟨w.heap.size, 1, none⟩ = some (.slice U2 R.length b2) ∧ w'.cell? ⟨Y, 0, none⟩ = some (.slice U3 a3 b3) ∧ w'.cell? ⟨Y, 1, none⟩ = some (.slice U4 a4 b4) ∧ w'.cell? ⟨w4.heap.size, 0, none⟩ = some (.slice V1 d1 e1) ∧ w'.cell? ⟨w4.heap.size, 1, none⟩ = some (.slice V2 d2 e2) ∧ w'.cell? ⟨w6.heap.size, 0, none⟩ = some (.slice V3 d3 e3) ∧ w'.cell? ⟨w6.heap.size, 1, none⟩ = some (.slice V4 d4 e4) ∧ Below w8.heap.size w8 w') := by
          intro w' hk
          have hb := H8.out.trans (hk.mono H8.out.size)
          obtain ⟨a, b, _, _⟩ := blk2 (blk_call KX7.out hb)
          obtain ⟨c, d, _, _⟩ := blk2 (blk_call KY7.out hb)
          obtain ⟨e, f, _, _⟩ := blk2 (blk_call N4w.out hb)
          obtain ⟨g, h, _, _⟩ := blk2 (blk_call N6.out hb)
          exact ⟨a, b, c, d, e, f, g, h, hk⟩
        have J1 := Lib.hid (K1w.out.call H8.out)
        have J2 := Lib.hid (K2w.out.call H8.out)
        have J3 := Lib.hid (K3w.out.call H8.out)
        have J4 := Lib.hid (K4w.out.call H8.out)
        have J5 := Lib.hid (G1w.out.call H8.out)
        have J6 := Lib.hid (G2w.out.call H8.out)
        have J7 := Lib.hid (G3.out.call H8.out)
        have J8 := Lib.hid (G4.out.call H8.out)
        have LL := Lib.hid (show P.length ≤ 100000 ∧ R.length ≤ 100000 by omega)
        have M : Hid (Below w8.heap.size w8 w8.drew) := (Below.refl _ _).drew
        clear K1w K2w K3w K4w G1w G2w G3 G4 KX7 KY7 N4w N6 HC5 x0 x1
        go_region_held3 (fun w' => w'.cell? ⟨w.heap.size, 0, none⟩ = some (.slice U1 a1 b1) ∧ w'.cell? ⟨w.heap.size, 1, none⟩ = some (.slice U2 R.length b2) ∧ w'.cell? ⟨Y, 0, none⟩ = some (.slice U3 a3 b3) ∧ w'.cell? ⟨Y, 1, none⟩ = some (.slice U4 a4 b4) ∧ w'.cell? ⟨w4.heap.size, 0, none⟩ = some (.slice V1 d1 e1) ∧ w'.cell? ⟨w4.heap.size, 1, none⟩ = some (.slice V2 d2 e2) ∧ w'.cell? ⟨w6.heap.size, 0, none⟩ = some (.slice V3 d3 e3) ∧ w'.cell? ⟨w6.heap.size, 1, none⟩ = some (.slice V4 d4 e4) ∧ Below w8.heap.size w8 w')
          (first | exact KS.out _ M.out | exact KS.out _ ((Below.refl _ _).drew))
          (first
            | (go_at_call 16; refine (right16 _ _ _ _ _ (J1.out.call M.out) (J2.out.call M.out)).mono ?_; rintro e w9 ⟨rfl, h⟩; have M := Lib.hid (M.out.trans (h.mono M.out.size)); clear h)
            | (go_at_call 17; refine (right17 _ _ _ _ _ (J1.out.call M.out) (J2.out.call M.out)).mono ?_; rintro e w10 ⟨rfl, h⟩; have M := Lib.hid (M.out.trans (h.mono M.out.size)); clear h)
            | (go_at_call 12; refine (print12 _ _ _ _ _ (J1.out.call M.out) (J2.out.call M.out)).mono ?_; rintro e w11 ⟨rfl, h⟩; have M := Lib.hid (M.out.trans (h.mono M.out.size)); clear h)
            | (go_at_call 18; refine (print18 _ _ _ _ _ (J1.out.call M.out) (J2.out.call M.out)).mono ?_; rintro e w12 ⟨rfl, h⟩; have M := Lib.hid (M.out.trans (h.mono M.out.size)); clear h)
            | (go_at_call_of 19 V1; refine (equal19 _ _ _ _ _ _ _ _ _ (J5.out.call M.out) (J6.out.call M.out) (J7.out.call M.out) (J8.out.call M.out) LN.out).mono ?_; rintro e w13 ⟨rfl, h⟩; rw [eqB_self]; have M := Lib.hid (M.out.trans (h.mono M.out.size)); clear h)
            | (go_at_call_of 19 U3; refine (equal19 _ _ _ _ _ _ _ _ _ (J1.out.call M.out) (J2.out.call M.out) (J3.out.call M.out) (J4.out.call M.out) LL.out).mono ?_; rintro e w14 ⟨rfl, h⟩; have M := Lib.hid (M.out.trans (h.mono M.out.size)); clear h)
            | (go_at_call_of 20 U3; refine (sameU20 _ _ _ _ _ _ _ _ _ (J1.out.call M.out) (J2.out.call M.out) (J3.out.call M.out) (J4.out.call M.out) LL.out).mono ?_; rintro e w15 ⟨rfl, h⟩; have M := Lib.hid (M.out.trans (h.mono M.out.size)); clear h)
            | (go_at_call 20; refine (sameU20 _ _ _ _ _ _ _ _ _ (J1.out.call M.out) (J2.out.call M.out) (J1.out.call M.out) (J2.out.call M.out) LL.out).mono ?_; rintro e w16 ⟨rfl, h⟩; rw [eqB_self]; have M := Lib.hid (M.out.trans (h.mono M.out.size)); clear h)
            | (go_at_call 3; refine (urlRuns_any _).mono ?_; rintro e w17 ⟨rfl, h⟩; have M := Lib.hid (M.out.trans (h.mono M.out.size)); clear h))
        go_wp2_with fail
        go_ret
        exact ⟨rfl, KBw.out.trans ((H8.out.trans (M.out.mono H8.out.size)).mono KBw.out.size)⟩
      · obtain ⟨k, rfl⟩ : ∃ k, j = k + 1 := ⟨j - 1, by omega⟩
        have ek : ((k + 1 : Nat) : Int) - 1 = (k : Int) := by omega
        rw [ek]
        have c0 : (0 : Int) ≤ (k : Int) := by omega
        have c1 : (k : Int) < (R.length : Int) := by omega
        obtain ⟨b5, o5, rfl, g1, g2⟩ := HC5.out k (by omega)
        have hst := gt_step R nm k (by omega)
        have HST := Lib.hid hst
        clear hst
        generalize R.getD k default = x at *
        obtain ⟨x, y⟩ := x
        simp only at g1 g2
        by_cases hx : x = nm
        · have q1 := str_beq x nm hx
          obtain ⟨e1, e2⟩ := HST.out.1 hx
          have E1 := Lib.hid e1
          have E2 := Lib.hid e2
          clear e1 e2 hx
          go_wp2_with fail
          go_roundw
          case rel => exact ⟨k, by omega, by go_num, by rw [E1.out], by rw [E2.out], by trivial⟩
          case measure => simp [intOf]
        · have q1 := str_bne x nm hx
          obtain ⟨e1, e2⟩ := HST.out.2 hx
          have E1 := Lib.hid e1
          have E2 := Lib.hid e2
          clear e1 e2 hx
          go_wp2_with fail
          go_roundw
          case rel => exact ⟨k, by omega, by go_num, by rw [E1.out], by rw [E2.out], by trivial⟩
          case measure => simp [intOf]
end Go.Proofs.Ytcppccpglcolnaa
