/-
  PatternText, walked.
-/
import Derived.Test.YtdlljccabkmfiaaDoorKWalk
import Derived.Test.YtdlljccabkmfiaaDoorPrt
import Derived.Test.YtdlljccabkmfiaaDoorSameG
import Derived.Test.YtdlljccabkmfiaaDoorRuns
namespace Go.Proofs.YtdlljccabkmfiaaDoor
open Go.RowKit Go.PlainAid

theorem prT_size (l : List Sg) : (prT l).size ≤ 1000 := by
  by_cases h : rgB l = true
  · rw [prT, if_pos h]
    split
    · rw [st_size]; simp
    · rw [st_size]
      have := pr_len l (fun g hg => (tx_all (ok_parts h hg).1).1.2)
      have := rg_len h
      omega
  · have h : rgB l = false := by simpa using h
    rw [pr_wrong h]
    decide

set_option maxHeartbeats 6400000 in
set_option maxRecDepth 100000 in
theorem text_any (A1 A2 A3 A4 : Option Addr) (n1 c1 n2 c2 n3 c3 n4 c4 : Nat) (la lb : Int) (f1 f2 f3 f4 : Nat → Int) (v5 : Value) (raw : List Sg) (s : ByteArray) (w : World)
    (k1 : Ia w A1 n1 f1) (k2 : Ia w A2 n2 f2) (k3 : Ia w A3 n3 f3) (k4 : Ia w A4 n4 f4) (k5 : Gs w v5 raw) (hraw : raw.length ≤ 9223372036854775807) (hsz : s.size ≤ 9223372036854775807) :
    Calls Tryd.prog 6 #[.agg #[.slice A1 n1 c1, .slice A2 n2 c2, .int .i64 la], .agg #[.slice A3 n3 c3, .slice A4 n4 c4, .int .i64 lb], v5, .string s] w fun e w' => e = .returned (.bool true) ∧ Below w.heap.size w w' := by
  have b0 := ((Below.refl w.heap.size w).alloc (Nat.le_refl _) (.cells #[.slice A1 n1 c1, .slice A2 n2 c2, .int .i64 la] 38 (0, 0))).alloc (by simp) (.cells #[.slice A3 n3 c3, .slice A4 n4 c4, .int .i64 lb] 38 (0, 0))
  have HX := Lib.hid (blk_alloc (blk_new w (.cells #[.slice A1 n1 c1, .slice A2 n2 c2, .int .i64 la] 38 (0, 0))) (.cells #[.slice A3 n3 c3, .slice A4 n4 c4, .int .i64 lb] 38 (0, 0)))
  have HY := Lib.hid (blk_new1 w (.cells #[.slice A1 n1 c1, .slice A2 n2 c2, .int .i64 la] 38 (0, 0)) (.cells #[.slice A3 n3 c3, .slice A4 n4 c4, .int .i64 lb] 38 (0, 0)))
  have HB := Lib.hid b0
  have K1 := Lib.hid (k1.call b0)
  have K2 := Lib.hid (k2.call b0)
  have K3 := Lib.hid (k3.call b0)
  have K4 := Lib.hid (k4.call b0)
  have K5 := Lib.hid (k5.call b0)
  obtain ⟨A5, c5, rfl, hc5, _, _⟩ := k5
  clear b0 k1 k2 k3 k4
  go_enter Tryd.func6, Tryd.ntmps6
  go_wp2_with fail
  generalize (w.alloc (.cells #[.slice A1 n1 c1, .slice A2 n2 c2, .int .i64 la] 38)).alloc (.cells #[.slice A3 n3 c3, .slice A4 n4 c4, .int .i64 lb] 38) = w5 at *
  have KS : Hid (∀ w' : World, Below w5.heap.size w5 w' → (w'.cell? ⟨w.heap.size, 0, none⟩ = some (.slice A1 n1 c1) ∧ w'.cell? ⟨w.heap.size, 1, none⟩ = some (.slice A2 n2 c2) ∧ w'.cell? ⟨w.heap.size, 2, none⟩ = some (.int .i64 la)) ∧ (w'.cell? ⟨w.heap.size + 1, 0, none⟩ = some (.slice A3 n3 c3) ∧ w'.cell? ⟨w.heap.size + 1, 1, none⟩ = some (.slice A4 n4 c4) ∧ w'.cell? ⟨w.heap.size + 1, 2, none⟩ = some (.int .i64 lb)) ∧ Below w5.heap.size w5 w') :=
    fun w' hk => ⟨blk3 (blk_call HX.out hk), blk3 (blk_call HY.out hk), hk⟩
  go_region_held3 (fun w' => (w'.cell? ⟨w.heap.size, 0, none⟩ = some (.slice A1 n1 c1) ∧ w'.cell? ⟨w.heap.size, 1, none⟩ = some (.slice A2 n2 c2) ∧ w'.cell? ⟨w.heap.size, 2, none⟩ = some (.int .i64 la)) ∧ (w'.cell? ⟨w.heap.size + 1, 0, none⟩ = some (.slice A3 n3 c3) ∧ w'.cell? ⟨w.heap.size + 1, 1, none⟩ = some (.slice A4 n4 c4) ∧ w'.cell? ⟨w.heap.size + 1, 2, none⟩ = some (.int .i64 lb)) ∧ Below w5.heap.size w5 w')
    (first | exact KS.out _ ((Below.refl _ _).drew) | exact KS.out _ M2.out | exact KS.out _ M1.out)
    (first
      | (go_at_call_of 12 A1; refine (segs12 A1 A2 n1 c1 n2 c2 la f1 f2 _ (K1.out.call ((Below.refl _ _).drew)) (K2.out.call ((Below.refl _ _).drew))).mono ?_; rintro e w1 ⟨va, l, rfl, hg, hk, h⟩; have M1 := Lib.hid (((Below.refl w5.heap.size w5).drew).trans h); have G1 := Lib.hid hg; have Q1 := Lib.hid hk; obtain ⟨Aa, na, ca, rfl⟩ := hg.shape; clear hg hk h)
      | (go_at_call_of 12 A3; refine (segs12 A3 A4 n3 c3 n4 c4 lb f3 f4 _ (K3.out.call M1.out) (K4.out.call M1.out)).mono ?_; rintro e w2 ⟨vb, m, rfl, hg, hk, h⟩; have M2 := Lib.hid (M1.out.trans (h.mono M1.out.size)); have G1b := Lib.hid (G1.out.call h); have G2 := Lib.hid hg; have Q2 := Lib.hid hk; obtain ⟨Ab, nb, cb, rfl⟩ := hg.shape; clear hg hk h))
  have CP := Lib.hid (cm_pr Q1.out.1)
  have PI : Hid (((prT l).toList == (prT m).toList) = decide (l = m)) := by
    show _ = _
    rw [bs_eq, Bool.eq_iff_iff, decide_eq_true_eq, decide_eq_true_eq]
    exact pr_inj Q1.out.1 Q2.out.1
  have hz1 := prT_size l
  have hz2 := prT_size m
  have hl5 := Q1.out.2.1
  obtain ⟨X, hX⟩ : ∃ X, prT l = X := ⟨_, rfl⟩
  obtain ⟨Y, hY⟩ : ∃ Y, prT m = Y := ⟨_, rfl⟩
  rw [hX] at CP hz1 PI
  rw [hY] at hz2 PI
  have HB2 := Lib.hid (HB.out.trans (M2.out.mono HB.out.size))
  have R2 := Lib.hid (K5.out.call M2.out)
  clear HX HY KS K1 K2 K3 K4 K5 HB M1 G1 Q1 Q2 M2
  go_wp2_with fail
  refine (print20 _ l _ G1b.out).mono ?_
  rintro e w3 ⟨rfl, h3⟩
  rw [hX]
  have HB3 := Lib.hid (HB2.out.trans (h3.mono HB2.out.size))
  have R3 := Lib.hid (R2.out.call h3)
  have G13 := Lib.hid (G1b.out.call h3)
  have G23 := Lib.hid (G2.out.call h3)
  clear h3 G1b G2 R2 HB2
  go_wp2_with fail
  refine (print20 _ m _ G23.out).mono ?_
  rintro e w4 ⟨rfl, h4⟩
  rw [hY]
  have HB4 := Lib.hid (HB3.out.trans (h4.mono HB3.out.size))
  have R4 := Lib.hid (R3.out.call h4)
  have G14 := Lib.hid (G13.out.call h4)
  have G24 := Lib.hid (G23.out.call h4)
  clear h4 G13 G23 R3 HB3
  go_wp2_with fail
  refine (compile7 _ _ (by omega)).mono ?_
  rintro e w6 ⟨vz, rfl, h6, h7⟩
  rw [CP.out.1]
  rw [CP.out.2] at h6
  have Z6 := Lib.hid h6
  obtain ⟨Az, nz, cz, rfl⟩ := h6.shape
  have HB6 := Lib.hid (HB4.out.trans (h7.mono HB4.out.size))
  have R6 := Lib.hid (R4.out.call h7)
  have G16 := Lib.hid (G14.out.call h7)
  have G26 := Lib.hid (G24.out.call h7)
  clear h6 h7 G14 G24 R4 HB4
  go_wp2_with fail
  refine (sameG _ _ l l _ Z6.out G16.out (by omega)).mono ?_
  rintro e w7 ⟨rfl, h7⟩
  rw [decide_eq_true rfl]
  have HB7 := Lib.hid (HB6.out.trans (h7.mono HB6.out.size))
  have R7 := Lib.hid (R6.out.call h7)
  have G17 := Lib.hid (G16.out.call h7)
  have G27 := Lib.hid (G26.out.call h7)
  clear h7 G16 G26 R6 HB6 Z6
  have q1 := PI.out
  go_wp2_with fail
  refine (sameG _ _ l m _ G17.out G27.out (by omega)).mono ?_
  rintro e w8 ⟨rfl, h8⟩
  have HB8 := Lib.hid (HB7.out.trans (h8.mono HB7.out.size))
  have R8 := Lib.hid (R7.out.call h8)
  clear h8 G17 G27 R7 HB7 PI
  obtain ⟨D, hD⟩ : ∃ D, decide (l = m) = D := ⟨_, rfl⟩
  rw [hD] at q1 ⊢
  obtain ⟨mn, hmn⟩ : ∃ mn : Nat, mn = min raw.length 9 := ⟨_, rfl⟩
  have hm1 : min (raw.length : Int) 9 = (mn : Int) := by omega
  have hm2 : (mn : Int) ≤ (raw.length : Int) := by omega
  have hm3 : (mn : Int) ≤ (c5 : Int) := by omega
  have T8 := Lib.hid (R8.out.take mn (by omega))
  have hrl : (raw.take mn).length = mn := by rw [List.length_take]; omega
  obtain ⟨r, hr⟩ : ∃ r, raw.take mn = r := ⟨_, rfl⟩
  rw [hr] at T8 hrl
  have hz3 := prT_size r
  have EM : Hid ((¬ rgB r = true → prT r = ⟨#[]⟩) ∧ (rgB r = true → prT r ≠ ⟨#[]⟩)) := ⟨fun h => pr_wrong (by simpa using h), fun h => pr_right h⟩
  clear hr R8 hraw hl5 hmn
  go_wp2_with fail
  refine (print20 _ r _ T8.out).mono ?_
  rintro e w9 ⟨rfl, h9⟩
  have HB9 := Lib.hid (HB8.out.trans (h9.mono HB8.out.size))
  have T9 := Lib.hid (T8.out.call h9)
  clear h9 T8 HB8
  go_wp2_with fail
  refine (compile7 _ _ (by omega)).mono ?_
  rintro e w10 ⟨vq, rfl, h10, h11⟩
  have HB10 := Lib.hid (HB9.out.trans (h11.mono HB9.out.size))
  have T10 := Lib.hid (T9.out.call h11)
  have Q10 := Lib.hid h10
  obtain ⟨Aq, nq, cq, rfl⟩ := h10.shape
  clear h10 h11 T9 HB9
  by_cases hB : rgB r = true
  · have hp := EM.out.2 hB
    rw [(cm_pr hB).1]
    have Q10b : Hid (Gs w10 (.slice Aq nq cq) r) := by have := Q10.out; rw [(cm_pr hB).2] at this; exact this
    clear Q10
    have qp : ((prT r).toList == []) = false := by
      have := bs_eq (prT r) ⟨#[]⟩
      rw [decide_eq_false hp, Lib.toList_data ⟨#[]⟩] at this
      exact this
    generalize prT r = P at *
    go_wp2_with fail
    refine (right16 _ r _ T10.out).mono ?_
    rintro e w11 ⟨rfl, h11⟩
    rw [hB]
    have HB11 := Lib.hid (HB10.out.trans (h11.mono HB10.out.size))
    have T11 := Lib.hid (T10.out.call h11)
    have Q11 := Lib.hid (Q10b.out.call h11)
    clear h11 T10 Q10b HB10
    go_wp2_with fail
    refine (right16 _ r _ T11.out).mono ?_
    rintro e w12 ⟨rfl, h12⟩
    rw [hB]
    have HB12 := Lib.hid (HB11.out.trans (h12.mono HB11.out.size))
    have T12 := Lib.hid (T11.out.call h12)
    have Q12 := Lib.hid (Q11.out.call h12)
    clear h12 T11 Q11 HB11
    go_wp2_with fail
    refine (sameG _ _ r r _ Q12.out T12.out (by omega)).mono ?_
    rintro e w13 ⟨rfl, h13⟩
    rw [decide_eq_true rfl]
    have HBX := Lib.hid (HB12.out.trans (h13.mono HB12.out.size))
    clear h13 T12 Q12 HB12 EM hp qp
    obtain ⟨ms, hms⟩ : ∃ ms : Nat, ms = min s.size 40 := ⟨_, rfl⟩
    have hs1 : min (s.size : Int) 40 = (ms : Int) := by omega
    have hs2 : (ms : Int) ≤ (s.size : Int) := by omega
    have htz : (s.extract 0 ms).size ≤ 40 := by rw [← bs_len, bs_extract, List.length_take]; omega
    have TL := Lib.hid (text_law (s.extract 0 ms))
    have CN := Lib.hid (@cm_not (s.extract 0 ms))
    obtain ⟨t, ht⟩ : ∃ t, s.extract 0 ms = t := ⟨_, rfl⟩
    rw [ht] at htz TL CN
    clear hms
    go_wp2_with fail
    (try rw [ht])
    refine (compile7 _ _ (by omega)).mono ?_
    rintro e w20 ⟨vv, rfl, h20, h21⟩
    have HB20 := Lib.hid (HBX.out.trans (h21.mono HBX.out.size))
    have V20 := Lib.hid h20
    have hln : Hid (cmB t = false → (cmL t).length = 0) := fun h => by rw [CN.out h]; rfl
    obtain ⟨Av, cv, rfl, _, _, _⟩ := h20
    clear h21
    by_cases hC : cmB t = true
    · have e1 := TL.out
      rw [hC] at e1 ⊢
      have e2 : prT (cmL t) = t ∧ t ≠ ⟨#[]⟩ := by
        have := e1.symm
        rw [Bool.and_eq_true, decide_eq_true_eq, decide_eq_true_eq] at this
        exact this
      have q7 : (t.toList == []) = false := by
        have := bs_eq t ⟨#[]⟩
        rw [decide_eq_false e2.2, Lib.toList_data ⟨#[]⟩] at this
        exact this
      have E2 := Lib.hid e2.1
      clear e1 e2 hln CN TL
      go_wp2_with fail
      refine (print20 _ (cmL t) _ V20.out).mono ?_
      rintro e w21 ⟨rfl, h22⟩
      rw [E2.out]
      have HB21 := Lib.hid (HB20.out.trans (h22.mono HB20.out.size))
      clear h22 E2
      go_wp2_with fail
      refine (patRuns_any _).mono ?_
      rintro e w22 ⟨rfl, h23⟩
      have HB22 := Lib.hid (HB21.out.trans (h23.mono HB21.out.size))
      clear h23
      go_wp2
      go_ret
      exact ⟨rfl, HB22.out⟩
    · have hC : cmB t = false := by simpa using hC
      have hv0 := hln.out hC
      have hne : prT (cmL t) ≠ t := by
        rw [CN.out hC]
        intro h
        have h9 := (cm_pr (l := []) (by decide +kernel)).1
        rw [h, hC] at h9
        cases h9
      have q8 := str_bne _ _ hne
      have V21 : Hid (Gs w20 (.slice Av 0 cv) (cmL t)) := by have := V20.out; rw [hv0] at this; exact this
      rw [hC]
      clear hne hln CN TL V20
      (try rw [hv0])
      go_wp2_with fail
      refine (print20 _ (cmL t) _ V21.out).mono ?_
      rintro e w21 ⟨rfl, h22⟩
      generalize prT (cmL t) = PP at *
      have HB21 := Lib.hid (HB20.out.trans (h22.mono HB20.out.size))
      clear h22
      go_wp2_with fail
      refine (patRuns_any _).mono ?_
      rintro e w22 ⟨rfl, h23⟩
      have HB22 := Lib.hid (HB21.out.trans (h23.mono HB21.out.size))
      clear h23
      go_wp2
      go_ret
      exact ⟨rfl, HB22.out⟩
  · have hB : rgB r = false := by simpa using hB
    have hp := EM.out.1 (by rw [hB]; decide)
    have hcm : cmB (prT r) = false := by rw [hp]; exact cm_empty
    rw [hcm, hp]
    clear hp hcm EM
    go_wp2_with fail
    refine (right16 _ r _ T10.out).mono ?_
    rintro e w11 ⟨rfl, h11⟩
    rw [hB]
    have HB11 := Lib.hid (HB10.out.trans (h11.mono HB10.out.size))
    have T11 := Lib.hid (T10.out.call h11)
    clear h11 T10 Q10 HB10
    go_wp2_with fail
    refine (right16 _ r _ T11.out).mono ?_
    rintro e w12 ⟨rfl, h12⟩
    rw [hB]
    have HBX := Lib.hid (HB11.out.trans (h12.mono HB11.out.size))
    clear h12 T11 HB11
    obtain ⟨ms, hms⟩ : ∃ ms : Nat, ms = min s.size 40 := ⟨_, rfl⟩
    have hs1 : min (s.size : Int) 40 = (ms : Int) := by omega
    have hs2 : (ms : Int) ≤ (s.size : Int) := by omega
    have htz : (s.extract 0 ms).size ≤ 40 := by rw [← bs_len, bs_extract, List.length_take]; omega
    have TL := Lib.hid (text_law (s.extract 0 ms))
    have CN := Lib.hid (@cm_not (s.extract 0 ms))
    obtain ⟨t, ht⟩ : ∃ t, s.extract 0 ms = t := ⟨_, rfl⟩
    rw [ht] at htz TL CN
    clear hms
    go_wp2_with fail
    (try rw [ht])
    refine (compile7 _ _ (by omega)).mono ?_
    rintro e w20 ⟨vv, rfl, h20, h21⟩
    have HB20 := Lib.hid (HBX.out.trans (h21.mono HBX.out.size))
    have V20 := Lib.hid h20
    have hln : Hid (cmB t = false → (cmL t).length = 0) := fun h => by rw [CN.out h]; rfl
    obtain ⟨Av, cv, rfl, _, _, _⟩ := h20
    clear h21
    by_cases hC : cmB t = true
    · have e1 := TL.out
      rw [hC] at e1 ⊢
      have e2 : prT (cmL t) = t ∧ t ≠ ⟨#[]⟩ := by
        have := e1.symm
        rw [Bool.and_eq_true, decide_eq_true_eq, decide_eq_true_eq] at this
        exact this
      have q7 : (t.toList == []) = false := by
        have := bs_eq t ⟨#[]⟩
        rw [decide_eq_false e2.2, Lib.toList_data ⟨#[]⟩] at this
        exact this
      have E2 := Lib.hid e2.1
      clear e1 e2 hln CN TL
      go_wp2_with fail
      refine (print20 _ (cmL t) _ V20.out).mono ?_
      rintro e w21 ⟨rfl, h22⟩
      rw [E2.out]
      have HB21 := Lib.hid (HB20.out.trans (h22.mono HB20.out.size))
      clear h22 E2
      go_wp2_with fail
      refine (patRuns_any _).mono ?_
      rintro e w22 ⟨rfl, h23⟩
      have HB22 := Lib.hid (HB21.out.trans (h23.mono HB21.out.size))
      clear h23
      go_wp2
      go_ret
      exact ⟨rfl, HB22.out⟩
    · have hC : cmB t = false := by simpa using hC
      have hv0 := hln.out hC
      have hne : prT (cmL t) ≠ t := by
        rw [CN.out hC]
        intro h
        have h9 := (cm_pr (l := []) (by decide +kernel)).1
        rw [h, hC] at h9
        cases h9
      have q8 := str_bne _ _ hne
      have V21 : Hid (Gs w20 (.slice Av 0 cv) (cmL t)) := by have := V20.out; rw [hv0] at this; exact this
      rw [hC]
      clear hne hln CN TL V20
      (try rw [hv0])
      go_wp2_with fail
      refine (print20 _ (cmL t) _ V21.out).mono ?_
      rintro e w21 ⟨rfl, h22⟩
      generalize prT (cmL t) = PP at *
      have HB21 := Lib.hid (HB20.out.trans (h22.mono HB20.out.size))
      clear h22
      go_wp2_with fail
      refine (patRuns_any _).mono ?_
      rintro e w22 ⟨rfl, h23⟩
      have HB22 := Lib.hid (HB21.out.trans (h23.mono HB21.out.size))
      clear h23
      go_wp2
      go_ret
      exact ⟨rfl, HB22.out⟩
end Go.Proofs.YtdlljccabkmfiaaDoor
