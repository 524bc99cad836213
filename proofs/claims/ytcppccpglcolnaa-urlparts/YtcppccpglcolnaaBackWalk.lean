/-
  URLBack, walked.
-/
import Derived.Test.YtcppccpglcolnaaFew
import Derived.Test.YtcppccpglcolnaaGet
import Derived.Test.YtcppccpglcolnaaBack
import Derived.Test.YtcppccpglcolnaaRuns
import Derived.Deep.DeepCutAuto
import Derived.WalkSpells
namespace Go.Proofs.Ytcppccpglcolnaa
open Go.RowKit Go.PlainAid

theorem Sa.call {w w' : World} {A : Option Addr} {n c : Nat} {p : List ByteArray} (h : Sa w A n c p) (hb : Below w.heap.size w w') : Sa w' A n c p :=
  ⟨h.1, h.2.1, h.2.2.1, fun ad ha j u hu => by have hc := h.2.2.2 ad ha j u hu; rw [hb.cell (World.block_lt_of_cell? _ _ hc)]; exact hc⟩
theorem Pa.call {w w' : World} {A : Option Addr} {n c : Nat} {p : List Pr} (h : Pa w A n c p) (hb : Below w.heap.size w w') : Pa w' A n c p :=
  ⟨h.1, h.2.1, h.2.2.1, fun ad ha j u hu => by have hc := h.2.2.2 ad ha j u hu; rw [hb.cell (World.block_lt_of_cell? _ _ hc)]; exact hc⟩

theorem eqB_self (p : List ByteArray) (q : List Pr) : eqB p q p q = true := by simp [eqB]
theorem str_beq0 {P : List ByteArray} {R : List Pr} : ((if false = true then st (urlL P R) else (⟨#[]⟩ : ByteArray)).toList == []) = true := by
  rw [if_neg (by decide), Lib.toList_data]
  rfl
theorem str_bne0 (s : ByteArray) (h : 1 ≤ s.size) : (s.toList == []) = false := by
  have := str_bne s ⟨#[]⟩ (fun e => by rw [e] at h; revert h; decide)
  rw [Lib.toList_data ⟨#[]⟩] at this
  exact this
theorem prn_eq {p p' : List ByteArray} {q q' : List Pr} (h : rightB p q = true) (h' : rightB p' q' = true) : ((prnS p q).toList == (prnS p' q').toList) = eqB p q p' q' := by
  rw [bs_eq, eqB, ← Bool.decide_and]
  apply decide_eq_decide.2
  constructor
  · intro e
    have a := par_prn h
    have b := par_prn h'
    rw [e] at a
    exact ⟨a.2.1.symm.trans b.2.1, a.2.2.symm.trans b.2.2⟩
  · rintro ⟨rfl, rfl⟩
    rfl

/-- behind the first row: the boxes X and Y hold what is left of both -/
def Cut (w : World) (X Y : Nat) (p : List ByteArray) (q : List Pr) (p' : List ByteArray) (q' : List Pr) (wc : World) : Prop :=
  ∃ A1 n1 c1 A2 n2 c2 A3 n3 c3 A4 n4 c4, wc.heap[X]? = some (.cells #[.slice A1 n1 c1, .slice A2 n2 c2] 25 (0, 0)) ∧ wc.heap[Y]? = some (.cells #[.slice A3 n3 c3, .slice A4 n4 c4] 25 (0, 0)) ∧
    Ss wc (.slice A1 n1 c1) p ∧ Ps wc (.slice A2 n2 c2) q ∧ Ss wc (.slice A3 n3 c3) p' ∧ Ps wc (.slice A4 n4 c4) q' ∧ Below w.heap.size w wc

theorem cut_end {w w7 : World} {X Y : Nat} {D1 D2 D3 D4 A1 A2 A3 A4 : Option Addr} {a1 b1 a2 b2 a3 b3 a4 b4 n1 c1 n2 c2 n3 c3 n4 c4 : Nat} {p p' : List ByteArray} {q q' : List Pr}
    (hX : w7.heap[X]? = some (.cells #[.slice D1 a1 b1, .slice D2 a2 b2] 25 (0, 0))) (hY : w7.heap[Y]? = some (.cells #[.slice D3 a3 b3, .slice D4 a4 b4] 25 (0, 0))) (hne : X ≠ Y)
    (k1 : Ss w7 (.slice A1 n1 c1) p) (k2 : Ps w7 (.slice A2 n2 c2) q) (k3 : Ss w7 (.slice A3 n3 c3) p') (k4 : Ps w7 (.slice A4 n4 c4) q') (hb : Below w.heap.size w w7) (hx : w.heap.size ≤ X) (hy : w.heap.size ≤ Y) :
    Cut w X Y p q p' q' ((((w7.setCell ⟨X, 0, none⟩ (.slice A1 n1 c1)).setCell ⟨X, 1, none⟩ (.slice A2 n2 c2)).setCell ⟨Y, 0, none⟩ (.slice A3 n3 c3)).setCell ⟨Y, 1, none⟩ (.slice A4 n4 c4)) := by
  have hX1 := blk_set2 hX (.slice A1 n1 c1) (.slice A2 n2 c2)
  have hY1 : ((w7.setCell ⟨X, 0, none⟩ (.slice A1 n1 c1)).setCell ⟨X, 1, none⟩ (.slice A2 n2 c2)).heap[Y]? = some (.cells #[.slice D3 a3 b3, .slice D4 a4 b4] 25 (0, 0)) :=
    blk_setCell_other (blk_setCell_other hY (p := ⟨X, 0, none⟩) (fun e => hne e.symm) _) (p := ⟨X, 1, none⟩) (fun e => hne e.symm) _
  refine ⟨A1, n1, c1, A2, n2, c2, A3, n3, c3, A4, n4, c4, ?_, blk_set2 hY1 _ _, (k1.set2 hX _ _).set2 hY1 _ _, (k2.set2 hX _ _).set2 hY1 _ _, (k3.set2 hX _ _).set2 hY1 _ _, (k4.set2 hX _ _).set2 hY1 _ _, ?_⟩
  · exact blk_setCell_other (blk_setCell_other hX1 (p := ⟨Y, 0, none⟩) hne _) (p := ⟨Y, 1, none⟩) hne _
  · exact (((hb.setCell hx _).setCell hx _).setCell hy _).setCell hy _

set_option maxRecDepth 100000 in
set_option maxHeartbeats 6400000 in
theorem back_any (A1 A2 A3 A4 : Option Addr) (n1 c1 n2 c2 n3 c3 n4 c4 : Nat) (p : List ByteArray) (q : List Pr) (p' : List ByteArray) (q' : List Pr) (s s' : ByteArray) (w : World)
    (h1 : Sa w A1 n1 c1 p) (h2 : Pa w A2 n2 c2 q) (h3 : Sa w A3 n3 c3 p') (h4 : Pa w A4 n4 c4 q') (m : Nat)
    (e1 : (if (120 : Int) < (s.size : Int) then (120 : Int) else (s.size : Int)) = (m : Int)) (f1 : (0 : Int) ≤ (m : Int)) (f3 : (m : Int) ≤ (s.size : Int)) (hs : Hid (s.extract 0 m = s')) (hz : s'.size ≤ 120) :
    Calls Try.prog 5 #[.agg #[.slice A1 n1 c1, .slice A2 n2 c2], .agg #[.slice A3 n3 c3, .slice A4 n4 c4], .string s] w fun e w' => e = .returned (.bool true) ∧ Below w.heap.size w w' := by
  have H1 := Lib.hid h1
  have H2 := Lib.hid h2
  have H3 := Lib.hid h3
  have H4 := Lib.hid h4
  clear h1 h2 h3 h4
  have HX := Lib.hid (blk_alloc (blk_new w (.cells #[.slice A1 n1 c1, .slice A2 n2 c2] 25 (0, 0))) (.cells #[.slice A3 n3 c3, .slice A4 n4 c4] 25 (0, 0)))
  have HY := Lib.hid (blk_new1 w (.cells #[.slice A1 n1 c1, .slice A2 n2 c2] 25 (0, 0)) (.cells #[.slice A3 n3 c3, .slice A4 n4 c4] 25 (0, 0)))
  have HB := Lib.hid (((Below.refl w.heap.size w).alloc (Nat.le_refl _) (.cells #[.slice A1 n1 c1, .slice A2 n2 c2] 25 (0, 0))).alloc (by simp) (.cells #[.slice A3 n3 c3, .slice A4 n4 c4] 25 (0, 0)))
  go_enter Try.func5, Try.ntmps5
  go_wp2_with fail
  generalize (w.alloc (.cells #[.slice A1 n1 c1, .slice A2 n2 c2] 25)).alloc (.cells #[.slice A3 n3 c3, .slice A4 n4 c4] 25) = w5 at *
  go_cut [2] from 16 (fun v wc => v = .string s' ∧ Cut w w.heap.size (w.heap.size + 1) (p.take 9) (q.take 9) (p'.take 9) (q'.take 9) wc)
  case first =>
    obtain ⟨x0, x1, x2, x3⟩ := blk2 HX.out
    obtain ⟨y0, y1, y2, y3⟩ := blk2 HY.out
    have lt5 := blk_lt HY.out
    have P1 := Lib.hid (H1.out.call HB.out)
    have P2 := Lib.hid (H2.out.call HB.out)
    have P3 := Lib.hid (H3.out.call HB.out)
    have P4 := Lib.hid (H4.out.call HB.out)
    go_region_with (first
      | (go_at_call_of 13 A1; go_must (refine (few13 A1 A2 n1 c1 n2 c2 p q _ (P1.out.call (Below.refl _ _).drew) (P2.out.call (Below.refl _ _).drew)).mono ?_); rintro e w6 ⟨v1, v2, rfl, k1, k2, k3⟩; obtain ⟨B1, j1, i1, rfl⟩ := k1.shape; obtain ⟨B2, j2, i2, rfl⟩ := k2.shape; have K1 := Lib.hid k1; have K2 := Lib.hid k2; have K3 := Lib.hid (((Below.refl w5.heap.size w5).drew).trans k3); clear k1 k2 k3; obtain ⟨x0, x1, x2, x3⟩ := blk2 (blk_call HX.out K3.out); obtain ⟨y0, y1, y2, y3⟩ := blk2 (blk_call HY.out K3.out))
      | (go_at_call_of 13 A3; refine (few13 A3 A4 n3 c3 n4 c4 p' q' _ (P3.out.call K3.out) (P4.out.call K3.out)).mono ?_; rintro e w7 ⟨v3, v4, rfl, k1, k2, k3⟩; obtain ⟨B3, j3, i3, rfl⟩ := k1.shape; obtain ⟨B4, j4, i4, rfl⟩ := k2.shape; have K4 := Lib.hid k1; have K5 := Lib.hid k2; have K6 := Lib.hid k3; clear k1 k2 k3; obtain ⟨x0, x1, x2, x3⟩ := blk2 (blk_call (blk_call HX.out K3.out) K6.out); obtain ⟨y0, y1, y2, y3⟩ := blk2 (blk_call (blk_call HY.out K3.out) K6.out)))
    all_goals
      go_wp2_with fail
      go_meet
      exact ⟨by rw [hs.out], cut_end (blk_call (blk_call HX.out K3.out) K6.out) (blk_call (blk_call HY.out K3.out) K6.out) (by omega) (K1.out.call K6.out) (K2.out.call K6.out) K4.out K5.out ((HB.out.trans (K3.out.mono HB.out.size)).trans (K6.out.mono (by have := HB.out.size; have := K3.out.size; omega))) (by omega) (by omega)⟩
  case rest =>
    obtain ⟨rfl, U1, a1, b1, U2, a2, b2, U3, a3, b3, U4, a4, b4, kX, kY, k1, k2, k3, k4, kb⟩ := hcut
    have ln : (p.take 9).length ≤ 9 ∧ (q.take 9).length ≤ 9 ∧ (p'.take 9).length ≤ 9 ∧ (q'.take 9).length ≤ 9 := by simp only [List.length_take]; omega
    obtain ⟨l1, l2, l3, l4⟩ := ln
    have KX := Lib.hid kX
    have KY := Lib.hid kY
    have K1 := Lib.hid k1
    have K2 := Lib.hid k2
    have K3 := Lib.hid k3
    have K4 := Lib.hid k4
    have KB := Lib.hid kb
    clear kX kY k1 k2 k3 k4 kb H1 H2 H3 H4 HX HY HB e1 f1 f3 hs
    generalize p.take 9 = P at *
    generalize q.take 9 = R at *
    generalize p'.take 9 = P' at *
    generalize q'.take 9 = R' at *
    generalize w.heap.size + 1 = Y at *
    have KS : Hid (∀ w' : World, Below wc.heap.size wc w' → w'.cell? ⟨w.heap.size, 0, none⟩ = some (.slice U1 a1 b1) ∧ w'.cell? ⟨w.heap.size, 1, none⟩ = some (.slice U2 a2 b2) ∧ w'.cell? ⟨Y, 0, none⟩ = some (.slice U3 a3 b3) ∧ w'.cell? ⟨Y, 1, none⟩ = some (.slice U4 a4 b4) ∧ Below wc.heap.size wc w') := by
      intro w' hk
      obtain ⟨a, b, _, _⟩ := blk2 (blk_call KX.out hk)
      obtain ⟨c, d, _, _⟩ := blk2 (blk_call KY.out hk)
      exact ⟨a, b, c, d, hk⟩
    go_wp2_with fail
    go_region_held3 (fun w' => w'.cell? ⟨w.heap.size, 0, none⟩ = some (.slice U1 a1 b1) ∧ w'.cell? ⟨w.heap.size, 1, none⟩ = some (.slice U2 a2 b2) ∧ w'.cell? ⟨Y, 0, none⟩ = some (.slice U3 a3 b3) ∧ w'.cell? ⟨Y, 1, none⟩ = some (.slice U4 a4 b4) ∧ Below wc.heap.size wc w')
      (first | exact KS.out _ ((Below.refl _ _).drew) | exact KS.out _ M2.out | exact KS.out _ M1.out)
      (first
        | (go_at_call_of 12 U1; refine (print12 _ _ _ _ _ (K1.out.call (Below.refl _ _).drew) (K2.out.call (Below.refl _ _).drew)).mono ?_; rintro e w1 ⟨rfl, h⟩; have M1 := Lib.hid (((Below.refl wc.heap.size wc).drew).trans h); clear h)
        | (go_at_call_of 12 U3; refine (print12 _ _ _ _ _ (K3.out.call M1.out) (K4.out.call M1.out)).mono ?_; rintro e w2 ⟨rfl, h⟩; have M2 := Lib.hid (M1.out.trans (h.mono M1.out.size)); clear h))
    clear KS
    go_upto_if 30 with (go_at_call 16; refine (right16 _ _ _ _ _ (K1.out.call M2.out) (K2.out.call M2.out)).mono ?_; rintro e w3 ⟨rfl, h⟩; have M3 := Lib.hid (M2.out.trans (h.mono M2.out.size)); clear h)
    go_cut [9, 10] from 30 (fun x y wz => Below w.heap.size w wz)
    case first =>
      by_cases hr : rightB P R = true
      · obtain ⟨r1, r2, r3⟩ := par_prn hr
        have hsz := prn_size hr
        have er : erI (parB (prnS P R)) = 0 := by rw [r1]; rfl
        have hem := str_bne0 (prnS P R) hsz.1
        have HE := Lib.hid (@prn_eq P P' R R' hr)
        rw [hr]
        go_wp2_with fail
        refine (parse9 _ _ (by omega)).mono ?_
        rintro e w4 ⟨v1, v2, rfl, g1, g2, g3⟩
        rw [er]
        rw [r2] at g1
        rw [r3] at g2
        obtain ⟨V1, d1, e1, rfl⟩ := g1.shape
        obtain ⟨V2, d2, e2, rfl⟩ := g2.shape
        have M4 := Lib.hid ((M3.out.trans (g3.mono M3.out.size)).alloc (by have := M3.out.size; have := g3.size; omega) (.cells #[.slice V1 d1 e1, .slice V2 d2 e2] 25 (0, 0)))
        have GB := Lib.hid ((Below.refl w4.heap.size w4).alloc (Nat.le_refl _) (.cells #[.slice V1 d1 e1, .slice V2 d2 e2] 25 (0, 0)))
        have G1 := Lib.hid (g1.call GB.out)
        have G2 := Lib.hid (g2.call GB.out)
        clear g1 g2 g3 er r1 r2 r3
        obtain ⟨x0, x1, _, _⟩ := blk2 (blk_call KX.out M4.out)
        go_wp2_with fail
        generalize w4.alloc (.cells #[.slice V1 d1 e1, .slice V2 d2 e2] 25) = w5 at *
        refine (equal19 _ _ _ _ _ _ _ _ _ G1.out G2.out (K1.out.call M4.out) (K2.out.call M4.out) (by omega)).mono ?_
        rintro e w6 ⟨rfl, h⟩
        rw [eqB_self]
        have M6 := Lib.hid (M4.out.trans (h.mono M4.out.size))
        clear h
        obtain ⟨y0, y1, _, _⟩ := blk2 (blk_call KY.out M6.out)
        obtain ⟨x0, x1, _, _⟩ := blk2 (blk_call KX.out M6.out)
        by_cases ho : rightB P' R' = true
        · by_cases hq : eqB P R P' R' = true
          · have q1 : ((prnS P R).toList == (prnS P' R').toList) = true := by rw [HE.out ho, hq]
            go_wp2_with fail
            refine (right16 _ _ _ _ _ (K3.out.call M6.out) (K4.out.call M6.out)).mono ?_
            rintro e w7 ⟨rfl, h⟩
            rw [ho]
            have M7 := Lib.hid (M6.out.trans (h.mono M6.out.size))
            clear h
            obtain ⟨y0, y1, _, _⟩ := blk2 (blk_call KY.out M7.out)
            obtain ⟨x0, x1, _, _⟩ := blk2 (blk_call KX.out M7.out)
            go_wp2_with fail
            refine (equal19 _ _ _ _ _ _ _ _ _ (K1.out.call M7.out) (K2.out.call M7.out) (K3.out.call M7.out) (K4.out.call M7.out) (by omega)).mono ?_
            rintro e w8 ⟨rfl, h⟩
            rw [hq]
            have M8 := Lib.hid (M7.out.trans (h.mono M7.out.size))
            clear h
            go_wp2_with fail
            go_meet
            exact KB.out.trans (M8.out.mono KB.out.size)
          · have hq : eqB P R P' R' = false := by simpa using hq
            have q1 : ((prnS P R).toList == (prnS P' R').toList) = false := by rw [HE.out ho, hq]
            go_wp2_with fail
            refine (right16 _ _ _ _ _ (K3.out.call M6.out) (K4.out.call M6.out)).mono ?_
            rintro e w7 ⟨rfl, h⟩
            rw [ho]
            have M7 := Lib.hid (M6.out.trans (h.mono M6.out.size))
            clear h
            obtain ⟨y0, y1, _, _⟩ := blk2 (blk_call KY.out M7.out)
            obtain ⟨x0, x1, _, _⟩ := blk2 (blk_call KX.out M7.out)
            go_wp2_with fail
            refine (equal19 _ _ _ _ _ _ _ _ _ (K1.out.call M7.out) (K2.out.call M7.out) (K3.out.call M7.out) (K4.out.call M7.out) (by omega)).mono ?_
            rintro e w8 ⟨rfl, h⟩
            rw [hq]
            have M8 := Lib.hid (M7.out.trans (h.mono M7.out.size))
            clear h
            go_wp2_with fail
            go_meet
            exact KB.out.trans (M8.out.mono KB.out.size)
        · have ho : rightB P' R' = false := by simpa using ho
          go_wp2_with fail
          refine (right16 _ _ _ _ _ (K3.out.call M6.out) (K4.out.call M6.out)).mono ?_
          rintro e w7 ⟨rfl, h⟩
          rw [ho]
          have M7 := Lib.hid (M6.out.trans (h.mono M6.out.size))
          clear h
          go_wp2_with fail
          go_meet
          exact KB.out.trans (M7.out.mono KB.out.size)
      · have hr : rightB P R = false := by simpa using hr
        have hem : ((prnS P R).toList == []) = true := by rw [prnS, hr]; exact str_beq0
        rw [hr]
        go_wp2_with fail
        go_meet
        exact KB.out.trans (M3.out.mono KB.out.size)
    case rest =>
      have KZ := Lib.hid hcut
      clear hcut K1 K2 K3 K4 KX KY KB M1 M2 M3 l1 l2 l3 l4
      by_cases hs : parB s' = true
      · have hr := par_right hs
        obtain ⟨r1, r2, r3⟩ := par_prn hr
        have hsz := prn_size hr
        have hsz1 : (0 : Int) < ((prnS (parP s') (parQ s')).size : Int) := by omega
        have er : erI (parB s') = 0 := by rw [hs]; rfl
        have er2 : erI (parB (prnS (parP s') (parQ s'))) = 0 := by rw [r1]; rfl
        have ln : (parP s').length ≤ 100000 ∧ (parQ s').length ≤ 100000 := by have := right_small hr; omega
        have LN := Lib.hid ln
        clear ln
        have R2 := Lib.hid r2
        have R3 := Lib.hid r3
        clear r2 r3
        go_wp2_with fail
        refine (parse9 _ _ (by omega)).mono ?_
        rintro e w4 ⟨v1, v2, rfl, g1, g2, g3⟩
        rw [er]
        obtain ⟨V1, d1, e1, rfl⟩ := g1.shape
        obtain ⟨V2, d2, e2, rfl⟩ := g2.shape
        have N4 := Lib.hid (blk_new w4 (.cells #[.slice V1 d1 e1, .slice V2 d2 e2] 25 (0, 0)))
        have GB := Lib.hid ((Below.refl w4.heap.size w4).alloc (Nat.le_refl _) (.cells #[.slice V1 d1 e1, .slice V2 d2 e2] 25 (0, 0)))
        have M4 := Lib.hid (KZ.out.trans ((g3.trans (GB.out.mono g3.size)).mono KZ.out.size))
        have G1 := Lib.hid (g1.call GB.out)
        have G2 := Lib.hid (g2.call GB.out)
        clear g1 g2 g3 er
        generalize parP s' = P2 at *
        generalize parQ s' = Q2 at *
        go_wp2_with fail
        generalize w4.alloc (.cells #[.slice V1 d1 e1, .slice V2 d2 e2] 25) = w5 at *
        refine (print12 _ _ _ _ _ G1.out G2.out).mono ?_
        rintro e w6 ⟨rfl, h6⟩
        have T6 := Lib.hid h6
        clear h6
        go_wp2_with fail
        refine (parse9 _ _ (by omega)).mono ?_
        rintro e w7 ⟨v1, v2, rfl, g1, g2, g3⟩
        rw [er2]
        rw [R2.out] at g1
        rw [R3.out] at g2
        obtain ⟨V3, d3, e3, rfl⟩ := g1.shape
        obtain ⟨V4, d4, e4, rfl⟩ := g2.shape
        have N7 := Lib.hid (blk_new w7 (.cells #[.slice V3 d3 e3, .slice V4 d4 e4] 25 (0, 0)))
        have GB7 := Lib.hid ((Below.refl w7.heap.size w7).alloc (Nat.le_refl _) (.cells #[.slice V3 d3 e3, .slice V4 d4 e4] 25 (0, 0)))
        have T8 := Lib.hid (T6.out.trans ((g3.trans (GB7.out.mono g3.size)).mono T6.out.size))
        have G3 := Lib.hid (g1.call GB7.out)
        have G4 := Lib.hid (g2.call GB7.out)
        clear g1 g2 g3 er2 r1
        obtain ⟨x0, x1, _, _⟩ := blk2 (blk_call N4.out T8.out)
        go_wp2_with fail
        generalize w7.alloc (.cells #[.slice V3 d3 e3, .slice V4 d4 e4] 25) = w8 at *
        refine (right16 _ _ _ _ _ (G1.out.call T8.out) (G2.out.call T8.out)).mono ?_
        rintro e w9 ⟨rfl, h⟩
        rw [hr]
        have T9 := Lib.hid (T8.out.trans (h.mono T8.out.size))
        have Z9 := Lib.hid h
        clear h
        obtain ⟨x0, x1, _, _⟩ := blk2 (blk_call N4.out T9.out)
        obtain ⟨y0, y1, _, _⟩ := blk2 (blk_call N7.out Z9.out)
        go_wp2_with fail
        refine (equal19 _ _ _ _ _ _ _ _ _ (G3.out.call Z9.out) (G4.out.call Z9.out) (G1.out.call T9.out) (G2.out.call T9.out) LN.out).mono ?_
        rintro e w10 ⟨rfl, h⟩
        rw [eqB_self]
        have Z10 := Lib.hid (Z9.out.trans (h.mono Z9.out.size))
        have T10 := Lib.hid (T9.out.trans (h.mono T9.out.size))
        clear h
        obtain ⟨y0, y1, _, _⟩ := blk2 (blk_call N7.out Z10.out)
        go_wp2_with fail
        refine (print12 _ _ _ _ _ (G3.out.call Z10.out) (G4.out.call Z10.out)).mono ?_
        rintro e w11 ⟨rfl, h⟩
        have T11 := Lib.hid (T10.out.trans (h.mono T10.out.size))
        clear h
        go_wp2_with fail
        refine (urlRuns_any _).mono ?_
        rintro e w12 ⟨rfl, h⟩
        have T12 := Lib.hid (T11.out.trans (h.mono T11.out.size))
        clear h
        go_wp2
        go_ret
        exact ⟨rfl, M4.out.trans (T12.out.mono M4.out.size)⟩
      · have hs : parB s' = false := by simpa using hs
        obtain ⟨r2, r3⟩ := par_none hs
        have er : erI (parB s') = 1 := by rw [hs]; rfl
        go_wp2_with fail
        refine (parse9 _ _ (by omega)).mono ?_
        rintro e w4 ⟨v1, v2, rfl, g1, g2, g3⟩
        rw [er]
        rw [r2] at g1
        rw [r3] at g2
        obtain ⟨V1, d1, e1, rfl⟩ := g1.shape
        obtain ⟨V2, d2, e2, rfl⟩ := g2.shape
        have GB := Lib.hid ((Below.refl w4.heap.size w4).alloc (Nat.le_refl _) (.cells #[.slice V1 d1 e1, .slice V2 d2 e2] 25 (0, 0)))
        have M4 := Lib.hid (KZ.out.trans ((g3.trans (GB.out.mono g3.size)).mono KZ.out.size))
        have G1 := Lib.hid (g1.call GB.out)
        have G2 := Lib.hid (g2.call GB.out)
        clear g1 g2 g3 er r2 r3
        go_wp2_with fail
        generalize w4.alloc (.cells #[.slice V1 d1 e1, .slice V2 d2 e2] 25) = w5 at *
        refine (equal19 _ _ _ _ _ _ _ _ _ G1.out G2.out (ss_nil _) (ps_nil _) (by simp)).mono ?_
        rintro e w6 ⟨rfl, h⟩
        rw [eqB_self]
        have M6 := Lib.hid (M4.out.trans (h.mono M4.out.size))
        clear h
        go_wp2_with fail
        refine (urlRuns_any _).mono ?_
        rintro e w7 ⟨rfl, h⟩
        have M7 := Lib.hid (M6.out.trans (h.mono M6.out.size))
        clear h
        go_wp2
        go_ret
        exact ⟨rfl, M7.out⟩
end Go.Proofs.Ytcppccpglcolnaa
