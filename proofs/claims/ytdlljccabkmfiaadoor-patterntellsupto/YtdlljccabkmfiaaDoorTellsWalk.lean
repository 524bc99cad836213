/-
  PatternTells, walked.
-/
import Derived.Test.YtdlljccabkmfiaaDoorRefMatch
import Derived.Test.YtdlljccabkmfiaaDoorRefBuild
import Derived.Test.YtdlljccabkmfiaaDoorBackWalk
namespace Go.Proofs.YtdlljccabkmfiaaDoor
open Go.RowKit Go.PlainAid

/-- what is told is short where the path is -/
theorem mt_short : ∀ (l : List Sg) (left : List ByteArray) (q : List Pr), mtR l left = some q → (∀ s ∈ left, s.size ≤ 2000000) → left.length ≤ 10 → ∀ p ∈ q, p.2.size ≤ 100000000 := by
  intro l
  induction l with
  | nil =>
    intro left q h _ _ p hp
    rw [mtR] at h
    split at h
    · cases h; cases hp
    · cases h
  | cons g r ih =>
    intro left q h hs hl p hp
    rw [mtR] at h
    cases ht : tkN g left with
    | none => rw [ht] at h; cases h
    | some n =>
      rw [ht] at h
      simp only at h
      cases hm : mtR r (left.drop n) with
      | none => rw [hm] at h; cases h
      | some q' =>
        rw [hm] at h
        cases h
        rw [List.mem_append] at hp
        rcases hp with hp | hp
        · unfold tlP at hp
          cases hv : tlV g (left.take n) with
          | none => rw [hv] at hp; cases hp
          | some v =>
            rw [hv] at hp
            rw [List.mem_singleton] at hp
            subst hp
            show v.size ≤ 100000000
            unfold tlV at hv
            split at hv
            · cases hv
              have h1 := jn_size (left.take n) 2000000 (fun s hs' => hs s (List.mem_of_mem_take hs'))
              have h2 : (left.take n).length ≤ 10 := by rw [List.length_take]; omega
              have h3 : (left.take n).length * (3 * 2000000 + 1) ≤ 10 * (3 * 2000000 + 1) := Nat.mul_le_mul_right _ h2
              omega
            · split at hv
              · cases hv
              · rename_i h1 h2
                cases hv
                have hne : left.take n ≠ [] := fun e => h2 (Or.inr e)
                have hlp := List.length_pos_iff.2 hne
                have hmem : (left.take n).getD 0 default ∈ left.take n := getD_mem _ 0 hlp
                have := hs _ (List.mem_of_mem_take hmem)
                omega
        · exact ih (left.drop n) q' hm (fun s hs' => hs s (List.mem_of_mem_drop hs')) (by rw [List.length_drop]; omega) p hp
theorem mtL_short (l : List Sg) (left : List ByteArray) (hs : ∀ s ∈ left, s.size ≤ 2000000) (hl : left.length ≤ 10) : (∀ p ∈ mtL l left, p.2.size ≤ 100000000) ∧ (mtL l left).length ≤ 8 := by
  by_cases hr : rgB l = true
  · rw [(mt_some hr).2]
    cases hm : mtR l left with
    | none => exact ⟨fun p hp => (by cases hp), (by simp)⟩
    | some q =>
      refine ⟨mt_short l left q hm hs hl, ?_⟩
      have h1 := (mt_names l left q hm).length_le
      have h2 : (prm l).length ≤ l.length := by unfold prm; rw [List.length_map]; exact List.length_filter_le _ _
      have h3 := rg_len hr
      rw [List.length_map] at h1
      simp only [Option.getD_some]
      omega
  · rw [(mt_wrong (by simpa using hr)).2]
    exact ⟨fun p hp => (by cases hp), (by simp)⟩

theorem bd_len {l : List Sg} {ps : List Pr} {x : List ByteArray} (h : bdO l ps = some x) : x.length ≤ 8 := by
  unfold bdO at h
  split at h
  · split at h
    · cases h
    · split at h
      · rename_i hc
        cases h
        rw [Bool.and_eq_true] at hc
        exact (right_parts hc.1).1
      · cases h
  · cases h

set_option maxHeartbeats 6400000 in
set_option maxRecDepth 100000 in
theorem tells_any (A1 A2 A3 A4 A5 : Option Addr) (n1 c1 n2 c2 n3 c3 n4 c4 n5 c5 : Nat) (la : Int) (own : Bool) (f1 f2 f3 f4 f5 : Nat → Int) (v0 v3 v4 : Value) (L : List Sg) (raw : List ByteArray) (params : List Pr) (w : World)
    (k0 : Gs w v0 L) (k1 : Ia w A1 n1 f1) (k2 : Ia w A2 n2 f2) (k3 : Ia w A3 n3 f3) (k4 : Ia w A4 n4 f4) (k5 : Ia w A5 n5 f5) (k6 : Ss w v3 raw) (k7 : Ps w v4 params)
    (hL : L.length ≤ 9223372036854775807) (hraw : raw.length ≤ 9223372036854775807) (hpar : params.length ≤ 9223372036854775807)
    (zL : ∀ g ∈ L, g.2.size ≤ 2000000) (zr : ∀ s ∈ raw, s.size ≤ 2000000) (zp : ∀ p ∈ params, p.2.size ≤ 2000000) :
    Calls Tryd.prog 4 #[v0, .agg #[.slice A1 n1 c1, .slice A2 n2 c2, .int .i64 la], .agg #[.slice A3 n3 c3, .slice A4 n4 c4, .slice A5 n5 c5], v3, v4, .bool own] w fun e w' => e = .returned (.bool true) ∧ Below w.heap.size w w' := by
  have b0 := ((Below.refl w.heap.size w).alloc (Nat.le_refl _) (.cells #[.slice A1 n1 c1, .slice A2 n2 c2, .int .i64 la] 38 (0, 0))).alloc (by simp) (.cells #[.slice A3 n3 c3, .slice A4 n4 c4, .slice A5 n5 c5] 40 (0, 0))
  have HX := Lib.hid (blk_alloc (blk_new w (.cells #[.slice A1 n1 c1, .slice A2 n2 c2, .int .i64 la] 38 (0, 0))) (.cells #[.slice A3 n3 c3, .slice A4 n4 c4, .slice A5 n5 c5] 40 (0, 0)))
  have HY := Lib.hid (blk_new1 w (.cells #[.slice A1 n1 c1, .slice A2 n2 c2, .int .i64 la] 38 (0, 0)) (.cells #[.slice A3 n3 c3, .slice A4 n4 c4, .slice A5 n5 c5] 40 (0, 0)))
  have HB := Lib.hid b0
  have K0 := Lib.hid (k0.call b0)
  have K1 := Lib.hid (k1.call b0)
  have K2 := Lib.hid (k2.call b0)
  have K3 := Lib.hid (k3.call b0)
  have K4 := Lib.hid (k4.call b0)
  have K5 := Lib.hid (k5.call b0)
  have K6 := Lib.hid (k6.call b0)
  have K7 := Lib.hid (k7.call b0)
  have ZL := Lib.hid zL
  have ZR := Lib.hid zr
  have ZP := Lib.hid zp
  obtain ⟨A0, c0, rfl, hc0, _, _⟩ := k0
  obtain ⟨A6, c6, rfl, hc6, _, _⟩ := k6
  obtain ⟨A7, c7, rfl, hc7, _, _⟩ := k7
  clear b0 k1 k2 k3 k4 k5 zL zr zp
  obtain ⟨m0, hm0⟩ : ∃ m : Nat, m = min L.length 10 := ⟨_, rfl⟩
  obtain ⟨m1, hm1⟩ : ∃ m : Nat, m = min raw.length 10 := ⟨_, rfl⟩
  obtain ⟨m2, hm2⟩ : ∃ m : Nat, m = min params.length 6 := ⟨_, rfl⟩
  have e0 : min (L.length : Int) 10 = (m0 : Int) := by omega
  have e1 : min (raw.length : Int) 10 = (m1 : Int) := by omega
  have e2 : min (params.length : Int) 6 = (m2 : Int) := by omega
  have y0 : (0 : Int) ≤ (m0 : Int) := by omega
  have y1 : (0 : Int) ≤ (m1 : Int) := by omega
  have y2 : (0 : Int) ≤ (m2 : Int) := by omega
  have x0 : (m0 : Int) ≤ (c0 : Int) := by omega
  have x1 : (m1 : Int) ≤ (c6 : Int) := by omega
  have x2 : (m2 : Int) ≤ (c7 : Int) := by omega
  have G0 := Lib.hid (K0.out.take m0 (by omega))
  have G6 := Lib.hid (K6.out.take m1 (by omega))
  have G7 := Lib.hid (K7.out.take m2 (by omega))
  have l0 : (L.take m0).length ≤ 10 := by rw [List.length_take]; omega
  have l1 : (raw.take m1).length ≤ 10 := by rw [List.length_take]; omega
  have l2 : (params.take m2).length ≤ 6 := by rw [List.length_take]; omega
  have Z0 : Hid (∀ g ∈ L.take m0, g.2.size ≤ 2000000) := fun g hg => ZL.out g (List.mem_of_mem_take hg)
  have Z1 : Hid (∀ s ∈ raw.take m1, s.size ≤ 2000000) := fun g hg => ZR.out g (List.mem_of_mem_take hg)
  have Z2 : Hid (∀ p ∈ params.take m2, p.2.size ≤ 2000000) := fun g hg => ZP.out g (List.mem_of_mem_take hg)
  clear K0 K6 K7 ZL ZR ZP hm0 hm1 hm2
  go_enter Tryd.func4, Tryd.ntmps4
  go_wp2_with fail
  generalize (w.alloc (.cells #[.slice A1 n1 c1, .slice A2 n2 c2, .int .i64 la] 38)).alloc (.cells #[.slice A3 n3 c3, .slice A4 n4 c4, .slice A5 n5 c5] 40) = w5 at *
  go_region
  have W6 := Lib.hid ((Below.refl w5.heap.size w5).drew)
  obtain ⟨w6, hw6⟩ : ∃ w6, w5.drew = w6 := ⟨_, rfl⟩
  rw [hw6] at W6 ⊢
  have H6 := Lib.hid (HB.out.trans (W6.out.mono HB.out.size))
  have P0 := Lib.hid (G0.out.call W6.out)
  have P6 := Lib.hid (G6.out.call W6.out)
  have P7 := Lib.hid (G7.out.call W6.out)
  have J1 := Lib.hid (K1.out.call W6.out)
  have J2 := Lib.hid (K2.out.call W6.out)
  have J3 := Lib.hid (K3.out.call W6.out)
  have J4 := Lib.hid (K4.out.call W6.out)
  have J5 := Lib.hid (K5.out.call W6.out)
  have X6 := Lib.hid (blk_call HX.out W6.out)
  have Y6 := Lib.hid (blk_call HY.out W6.out)
  clear hw6 HB G0 G6 G7 K1 K2 K3 K4 K5 HX HY W6
  generalize L.take m0 = l at *
  generalize raw.take m1 = pa at *
  generalize params.take m2 = q at *
  go_upto_if 40 with fail
  go_cut [0, 3] from 40 (fun a b wz => ∃ (l : List Sg) (pa : List ByteArray), Gs wz a l ∧ Ss wz b pa ∧ (∀ g ∈ l, g.2.size ≤ 2000000) ∧ (∀ s ∈ pa, s.size ≤ 2000000) ∧ pa.length ≤ 10 ∧ Below w6.heap.size w6 wz)
  case first =>
    cases own
    · go_wp2_with fail
      go_meet
      exact ⟨l, pa, P0.out, P6.out, Z0.out, Z1.out, l1, Below.refl _ _⟩
    · obtain ⟨u0, u1, u2⟩ := blk3 X6.out
      go_wp2_with fail
      refine (segs12 A1 A2 n1 c1 n2 c2 la f1 f2 _ J1.out J2.out).mono ?_
      rintro e w7 ⟨va, l', rfl, hg, hk, h⟩
      have G1 := Lib.hid hg
      have Q1 := Lib.hid hk
      have M1 := Lib.hid h
      obtain ⟨Aa, ca, rfl, hca, _, _⟩ := hg
      clear hk h u0 u1 u2
      obtain ⟨u0, u1, u2⟩ := blk3 (blk_call Y6.out M1.out)
      go_wp2_with fail
      refine (url13 A3 A4 A5 n3 c3 n4 c4 n5 c5 f3 f4 f5 _ (J3.out.call M1.out) (J4.out.call M1.out) (J5.out.call M1.out)).mono ?_
      intro e w8 hkp
      obtain ⟨vp, vq, o, oq, rfl, hs, hq, hk, hb⟩ := hkp
      obtain ⟨Ao, no, co, rfl⟩ := hs.shape
      obtain ⟨Aq, nq, cq, rfl⟩ := hq.shape
      have S8 := Lib.hid hs
      have M8 := Lib.hid (M1.out.trans (hb.mono M1.out.size))
      have G8 := Lib.hid (G1.out.call hb)
      have ho5 := hk.1
      have OZ : Hid (∀ s ∈ o, s.size ≤ 2000000) := by
        intro s hs
        have hri := keep_right hk.1 hk.2.2.1
        rw [rightB, Bool.and_eq_true, Bool.and_eq_true, List.all_eq_true] at hri
        have := (of_decide_eq_true (hri.2.1 s hs)).2
        omega
      have LZ : Hid (∀ g ∈ l', g.2.size ≤ 2000000) := fun g hg => by
        have := tx_le (ok_parts Q1.out.1 hg).1
        omega
      have F43 := field43
      clear hs hq hk hb
      go_wp2_with fail
      go_meet
      exact ⟨l', o, G8.out, S8.out, LZ.out, OZ.out, by omega, M8.out⟩
  case rest =>
    obtain ⟨l', pa', hg, hs, hz1, hz2, hl, hb⟩ := hcut
    have GG := Lib.hid hg
    have SS := Lib.hid hs
    have ZG : Hid (∀ g ∈ l', g.2.size ≤ 9223372036854775807) := fun g hg => by have := hz1 g hg; omega
    have ZS : Hid (∀ s ∈ pa', s.size ≤ 100000000) := fun g hg => by have := hz2 g hg; omega
    have ZQ : Hid (∀ p ∈ q, p.2.size ≤ 100000000) := fun g hg => by have := Z2.out g hg; omega
    obtain ⟨hy1, hy2⟩ := mtL_short l' pa' hz2 hl
    have ZY := Lib.hid hy1
    have BB := Lib.hid (H6.out.trans (hb.mono H6.out.size))
    have PP := Lib.hid (P7.out.call hb)
    obtain ⟨Ag, cg, rfl, _, _, _⟩ := hg
    obtain ⟨As, cs, rfl, _, _, _⟩ := hs
    clear hz1 hz2 hb hy1 Z0 Z1 Z2 P0 P6 P7 J1 J2 J3 J4 J5 X6 Y6 H6 l1
    have hq6 : q.length ≤ 6 := l2
    have hq9 : ∃ A n c, Value.slice A7 m2 c7 = .slice A n c := ⟨_, _, _, rfl⟩
    clear hq9
    obtain ⟨A9, c9, hv9, _, _, _⟩ := PP.out
    simp only [Value.slice.injEq] at hv9
    obtain ⟨rfl, hmq, rfl⟩ := hv9
    subst hmq
    clear e0 e1 e2 y0 y1 y2 x0 x1 x2 l0
    obtain ⟨r1, hr1⟩ : ∃ r, mtB l' pa' = r := ⟨_, rfl⟩
    obtain ⟨y, hy⟩ : ∃ y, mtL l' pa' = y := ⟨_, rfl⟩
    obtain ⟨r2, hr2⟩ : ∃ r, bdB l' q = r := ⟨_, rfl⟩
    obtain ⟨z, hz⟩ : ∃ z, bdL l' q = z := ⟨_, rfl⟩
    rw [hy] at hy2 ZY
    obtain ⟨r3, hr3⟩ : ∃ r, bdB l' y = r := ⟨_, rfl⟩
    obtain ⟨u, hu⟩ : ∃ u, bdL l' y = u := ⟨_, rfl⟩
    obtain ⟨r4, hr4⟩ : ∃ r, rgB l' = r := ⟨_, rfl⟩
    have hzl : z.length ≤ 1000000000 := by
      rw [← hz, bdL]
      cases hb : bdO l' q with
      | none => simp
      | some x =>
        simp only [Option.getD_some]
        have := (bd_len hb)
        omega
    have hul : u.length ≤ 1000000000 := by
      rw [← hu, bdL]
      cases hb : bdO l' y with
      | none => simp
      | some x =>
        simp only [Option.getD_some]
        have := (bd_len hb)
        omega
    have E := Lib.hid (show mtB l' pa' = r1 ∧ mtL l' pa' = y ∧ bdB l' q = r2 ∧ bdL l' q = z ∧ bdB l' y = r3 ∧ bdL l' y = u ∧ rgB l' = r4 from ⟨hr1, hy, hr2, hz, hr3, hu, hr4⟩)
    clear hr1 hy hr2 hz hr3 hu hr4
    go_wp2_with fail
    refine (match8 _ _ l' pa' _ GG.out SS.out ZS.out (by omega)).mono ?_
    rintro e w1 ⟨v1, rfl, h1, h2⟩
    rw [E.out.1]
    rw [E.out.2.1] at h1
    obtain ⟨B1, b1, rfl, _, _, _⟩ := id h1
    have X1 := Lib.hid h1
    have G1 := Lib.hid (GG.out.call h2)
    have S1 := Lib.hid (SS.out.call h2)
    have P1 := Lib.hid (PP.out.call h2)
    have T1 := Lib.hid (BB.out.trans (h2.mono BB.out.size))
    clear h1 h2 GG SS PP BB
    go_wp2_with fail
    refine (match14 _ _ l' pa' _ G1.out S1.out ZS.out (by omega) ZG.out).mono ?_
    rintro e w2 ⟨v2, rfl, h1, h2⟩
    rw [E.out.1]
    rw [E.out.2.1] at h1
    obtain ⟨B2, b2, rfl, _, _, _⟩ := id h1
    have Y2 := Lib.hid h1
    have X2 := Lib.hid (X1.out.call h2)
    have G2 := Lib.hid (G1.out.call h2)
    have P2 := Lib.hid (P1.out.call h2)
    have T2 := Lib.hid (T1.out.trans (h2.mono T1.out.size))
    clear h1 h2 X1 G1 S1 P1 T1
    go_wp2_with fail
    refine (build9 _ _ l' q _ G2.out P2.out (by omega) ZQ.out).mono ?_
    rintro e w3 ⟨v3, rfl, h1, h2⟩
    rw [E.out.2.2.1]
    rw [E.out.2.2.2.1] at h1
    obtain ⟨B3, b3, rfl, _, _, _⟩ := id h1
    have V3 := Lib.hid h1
    have Y3 := Lib.hid (Y2.out.call h2)
    have X3 := Lib.hid (X2.out.call h2)
    have G3 := Lib.hid (G2.out.call h2)
    have P3 := Lib.hid (P2.out.call h2)
    have T3 := Lib.hid (T2.out.trans (h2.mono T2.out.size))
    clear h1 h2 X2 Y2 G2 P2 T2
    go_wp2_with fail
    refine (build15 _ _ l' q _ G3.out P3.out (by omega) ZQ.out ZG.out).mono ?_
    rintro e w4 ⟨v4, rfl, h1, h2⟩
    rw [E.out.2.2.1]
    rw [E.out.2.2.2.1] at h1
    obtain ⟨B4, b4, rfl, _, _, _⟩ := id h1
    have U4 := Lib.hid h1
    have V4 := Lib.hid (V3.out.call h2)
    have Y4 := Lib.hid (Y3.out.call h2)
    have X4 := Lib.hid (X3.out.call h2)
    have G4 := Lib.hid (G3.out.call h2)
    have T4 := Lib.hid (T3.out.trans (h2.mono T3.out.size))
    clear h1 h2 X3 Y3 G3 P3 T3 V3
    go_wp2_with fail
    refine (build9 _ _ l' y _ G4.out Y4.out (by omega) ZY.out).mono ?_
    rintro e w5' ⟨v5, rfl, h1, h2⟩
    rw [E.out.2.2.2.2.1]
    rw [E.out.2.2.2.2.2.1] at h1
    obtain ⟨B5, b5, rfl, _, _, _⟩ := id h1
    have C5 := Lib.hid h1
    have U5 := Lib.hid (U4.out.call h2)
    have V5 := Lib.hid (V4.out.call h2)
    have Y5 := Lib.hid (Y4.out.call h2)
    have X5 := Lib.hid (X4.out.call h2)
    have G5 := Lib.hid (G4.out.call h2)
    have T5 := Lib.hid (T4.out.trans (h2.mono T4.out.size))
    clear h1 h2 X4 Y4 G4 T4 V4 U4
    go_wp2_with fail
    refine (build15 _ _ l' y _ G5.out Y5.out (by omega) ZY.out ZG.out).mono ?_
    rintro e w6' ⟨v6, rfl, h1, h2⟩
    rw [E.out.2.2.2.2.1]
    rw [E.out.2.2.2.2.2.1] at h1
    obtain ⟨B6, b6, rfl, _, _, _⟩ := id h1
    have D6 := Lib.hid h1
    have C6 := Lib.hid (C5.out.call h2)
    have U6 := Lib.hid (U5.out.call h2)
    have V6 := Lib.hid (V5.out.call h2)
    have Y6 := Lib.hid (Y5.out.call h2)
    have X6 := Lib.hid (X5.out.call h2)
    have G6 := Lib.hid (G5.out.call h2)
    have T6 := Lib.hid (T5.out.trans (h2.mono T5.out.size))
    clear h1 h2 X5 Y5 G5 T5 V5 U5 C5
    have ZG7 := ZG
    have hw : (y.length = 0) ∨ (¬ y.length = 0 ∧ ¬ q.length = 0) ∨ (¬ y.length = 0 ∧ q.length = 0) := by omega
    rcases hw with hw | ⟨hw1, hw2⟩ | ⟨hw1, hw2⟩
    · have c0 : ¬ (0 : Int) < (y.length : Int) := by omega
      have c1 : ¬ 0 < y.length := by omega
      clear hw
      go_wp2_with fail
      refine (right16 _ l' _ G6.out).mono ?_
      rintro e w8 ⟨rfl, h8⟩
      rw [E.out.2.2.2.2.2.2]
      have G8 := Lib.hid (G6.out.call h8)
      have X8 := Lib.hid (X6.out.call h8)
      have Y8 := Lib.hid (Y6.out.call h8)
      have V8 := Lib.hid (V6.out.call h8)
      have U8 := Lib.hid (U6.out.call h8)
      have T8 := Lib.hid (T6.out.trans (h8.mono T6.out.size))
      clear h8 G6 X6 Y6 V6 U6 T6
      go_wp2_with fail
      refine (rightPat17 _ l' _ G8.out ZG7.out).mono ?_
      rintro e w9 ⟨rfl, h9⟩
      rw [E.out.2.2.2.2.2.2]
      have X9 := Lib.hid (X8.out.call h9)
      have Y9 := Lib.hid (Y8.out.call h9)
      have V9 := Lib.hid (V8.out.call h9)
      have U9 := Lib.hid (U8.out.call h9)
      have T9 := Lib.hid (T8.out.trans (h9.mono T8.out.size))
      clear h9 G8 X8 Y8 V8 U8 T8
      have bb4 : (r4 == r4) = true := by cases r4 <;> rfl
      have bb1 : (r1 == r1) = true := by cases r1 <;> rfl
      have bb2 : (r2 == r2) = true := by cases r2 <;> rfl
      go_wp2_with fail
      refine (sameP _ _ y y _ X9.out Y9.out (by omega)).mono ?_
      rintro e w10 ⟨rfl, h10⟩
      rw [decide_eq_true (rfl : y = y)]
      have V10 := Lib.hid (V9.out.call h10)
      have U10 := Lib.hid (U9.out.call h10)
      have T10 := Lib.hid (T9.out.trans (h10.mono T9.out.size))
      clear h10 X9 Y9 V9 U9 T9
      go_wp2_with fail
      refine (sameS _ _ z z _ V10.out U10.out hzl).mono ?_
      rintro e w11 ⟨rfl, h11⟩
      rw [decide_eq_true (rfl : z = z)]
      have T11 := Lib.hid (T10.out.trans (h11.mono T10.out.size))
      clear h11 V10 U10 T10
      go_wp2_with fail
      refine (patRuns_any _).mono ?_
      rintro e w12 ⟨rfl, h12⟩
      have T12 := Lib.hid (T11.out.trans (h12.mono T11.out.size))
      clear h12 T11
      go_wp2_with fail
      go_ret
      exact ⟨rfl, T12.out⟩
    · have c0 : (0 : Int) < (y.length : Int) := by omega
      have c1 : 0 < y.length := by omega
      have c2 : ((q.length : Int) == 0) = false := by rw [beq_eq_false_iff_ne]; omega
      have c3 : ¬ (q.length : Int) = 0 := by omega
      clear hw1
      go_wp2_with fail
      refine (right16 _ l' _ G6.out).mono ?_
      rintro e w8 ⟨rfl, h8⟩
      rw [E.out.2.2.2.2.2.2]
      have G8 := Lib.hid (G6.out.call h8)
      have X8 := Lib.hid (X6.out.call h8)
      have Y8 := Lib.hid (Y6.out.call h8)
      have V8 := Lib.hid (V6.out.call h8)
      have U8 := Lib.hid (U6.out.call h8)
      have T8 := Lib.hid (T6.out.trans (h8.mono T6.out.size))
      clear h8 G6 X6 Y6 V6 U6 T6
      go_wp2_with fail
      refine (rightPat17 _ l' _ G8.out ZG7.out).mono ?_
      rintro e w9 ⟨rfl, h9⟩
      rw [E.out.2.2.2.2.2.2]
      have X9 := Lib.hid (X8.out.call h9)
      have Y9 := Lib.hid (Y8.out.call h9)
      have V9 := Lib.hid (V8.out.call h9)
      have U9 := Lib.hid (U8.out.call h9)
      have T9 := Lib.hid (T8.out.trans (h9.mono T8.out.size))
      clear h9 G8 X8 Y8 V8 U8 T8
      have bb4 : (r4 == r4) = true := by cases r4 <;> rfl
      have bb1 : (r1 == r1) = true := by cases r1 <;> rfl
      have bb2 : (r2 == r2) = true := by cases r2 <;> rfl
      go_wp2_with fail
      refine (sameP _ _ y y _ X9.out Y9.out (by omega)).mono ?_
      rintro e w10 ⟨rfl, h10⟩
      rw [decide_eq_true (rfl : y = y)]
      have V10 := Lib.hid (V9.out.call h10)
      have U10 := Lib.hid (U9.out.call h10)
      have T10 := Lib.hid (T9.out.trans (h10.mono T9.out.size))
      clear h10 X9 Y9 V9 U9 T9
      go_wp2_with fail
      refine (sameS _ _ z z _ V10.out U10.out hzl).mono ?_
      rintro e w11 ⟨rfl, h11⟩
      rw [decide_eq_true (rfl : z = z)]
      have T11 := Lib.hid (T10.out.trans (h11.mono T10.out.size))
      clear h11 V10 U10 T10
      go_wp2_with fail
      refine (patRuns_any _).mono ?_
      rintro e w12 ⟨rfl, h12⟩
      have T12 := Lib.hid (T11.out.trans (h12.mono T11.out.size))
      clear h12 T11
      go_wp2_with fail
      go_ret
      exact ⟨rfl, T12.out⟩
    · have c0 : (0 : Int) < (y.length : Int) := by omega
      have c1 : 0 < y.length := by omega
      clear hw1
      go_wp2_with fail
      refine (sameS _ _ u u _ C6.out D6.out hul).mono ?_
      rintro e w7 ⟨rfl, h7⟩
      rw [decide_eq_true (rfl : u = u)]
      have G7 := Lib.hid (G6.out.call h7)
      have X7 := Lib.hid (X6.out.call h7)
      have Y7 := Lib.hid (Y6.out.call h7)
      have V7 := Lib.hid (V6.out.call h7)
      have U7 := Lib.hid (U6.out.call h7)
      have T7 := Lib.hid (T6.out.trans (h7.mono T6.out.size))
      clear h7 G6 X6 Y6 V6 U6 T6 C6 D6
      go_wp2_with fail
      refine (right16 _ l' _ G7.out).mono ?_
      rintro e w8 ⟨rfl, h8⟩
      rw [E.out.2.2.2.2.2.2]
      have G8 := Lib.hid (G7.out.call h8)
      have X8 := Lib.hid (X7.out.call h8)
      have Y8 := Lib.hid (Y7.out.call h8)
      have V8 := Lib.hid (V7.out.call h8)
      have U8 := Lib.hid (U7.out.call h8)
      have T8 := Lib.hid (T7.out.trans (h8.mono T7.out.size))
      clear h8 G7 X7 Y7 V7 U7 T7
      go_wp2_with fail
      refine (rightPat17 _ l' _ G8.out ZG7.out).mono ?_
      rintro e w9 ⟨rfl, h9⟩
      rw [E.out.2.2.2.2.2.2]
      have X9 := Lib.hid (X8.out.call h9)
      have Y9 := Lib.hid (Y8.out.call h9)
      have V9 := Lib.hid (V8.out.call h9)
      have U9 := Lib.hid (U8.out.call h9)
      have T9 := Lib.hid (T8.out.trans (h9.mono T8.out.size))
      clear h9 G8 X8 Y8 V8 U8 T8
      have bb4 : (r4 == r4) = true := by cases r4 <;> rfl
      have bb1 : (r1 == r1) = true := by cases r1 <;> rfl
      have bb2 : (r2 == r2) = true := by cases r2 <;> rfl
      go_wp2_with fail
      refine (sameP _ _ y y _ X9.out Y9.out (by omega)).mono ?_
      rintro e w10 ⟨rfl, h10⟩
      rw [decide_eq_true (rfl : y = y)]
      have V10 := Lib.hid (V9.out.call h10)
      have U10 := Lib.hid (U9.out.call h10)
      have T10 := Lib.hid (T9.out.trans (h10.mono T9.out.size))
      clear h10 X9 Y9 V9 U9 T9
      go_wp2_with fail
      refine (sameS _ _ z z _ V10.out U10.out hzl).mono ?_
      rintro e w11 ⟨rfl, h11⟩
      rw [decide_eq_true (rfl : z = z)]
      have T11 := Lib.hid (T10.out.trans (h11.mono T10.out.size))
      clear h11 V10 U10 T10
      go_wp2_with fail
      refine (patRuns_any _).mono ?_
      rintro e w12 ⟨rfl, h12⟩
      have T12 := Lib.hid (T11.out.trans (h12.mono T11.out.size))
      clear h12 T11
      go_wp2_with fail
      go_ret
      exact ⟨rfl, T12.out⟩
end Go.Proofs.YtdlljccabkmfiaaDoor
