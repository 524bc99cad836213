/-
  RankOrder, walked.
-/
import Derived.Test.YtapfepmioiacbaaSto
import Derived.Test.YtapfepmioiacbaaSameG
import Derived.Test.YtapfepmioiacbaaRuns
import Derived.Deep.CutBlock
import Derived.Deep.DeepCutAuto
namespace Go.Proofs.Ytapfepmioiacbaa
open Go.RowKit Go.PlainAid

theorem al4 (w : World) (x y z : Obj) : Below w.heap.size w (((w.alloc x).alloc y).alloc z) ∧ (((w.alloc x).alloc y).alloc z).heap[w.heap.size]? = some x ∧ (((w.alloc x).alloc y).alloc z).heap[w.heap.size + 1]? = some y ∧ (((w.alloc x).alloc y).alloc z).heap[w.heap.size + 1 + 1]? = some z := by
  refine ⟨(((Below.refl _ _).alloc (Nat.le_refl _) x).alloc (by simp) y).alloc (by simp; omega) z, blk_alloc (blk_alloc (blk_new _ _) _) _, blk_alloc (blk_new1 _ _ _) _, ?_⟩
  have := blk_new1 (w.alloc x) y z
  simpa using this

/-- what the laws of the order ask of three: the ways that they may go -/
theorem ways (l m r : List Sg) : cP l l = 0 ∧
    ((cP l m = 1 ∧ cP m l = -1 ∧ decide (l = m) = false) ∨
     (cP l m = -1 ∧ cP m l = 1 ∧ decide (l = m) = false ∧ ((cP m r ≤ 0 ∧ cP l r ≤ 0) ∨ ¬ cP m r ≤ 0)) ∨
     (cP l m = 0 ∧ cP m l = 0 ∧ decide (l = m) = true ∧ ((cP m r ≤ 0 ∧ cP l r ≤ 0) ∨ ¬ cP m r ≤ 0))) := by
  refine ⟨tcP.refl l, ?_⟩
  have h1 := tcP.one l m
  have h2 := tcP.anti l m
  have h3 := tcP.zero l m
  have h4 := tcP.le l m r
  rcases h1 with h1 | h1 | h1
  · right; left
    refine ⟨h1, by omega, decide_eq_false (fun e => by have := h3.2 e; omega), ?_⟩
    by_cases hq : cP m r ≤ 0
    · exact Or.inl ⟨hq, h4 (by omega) hq⟩
    · exact Or.inr hq
  · right; right
    refine ⟨h1, by omega, decide_eq_true (h3.1 h1), ?_⟩
    by_cases hq : cP m r ≤ 0
    · exact Or.inl ⟨hq, h4 (by omega) hq⟩
    · exact Or.inr hq
  · left
    exact ⟨h1, by omega, decide_eq_false (fun e => by have := h3.2 e; omega)⟩

set_option maxHeartbeats 6400000 in
set_option maxRecDepth 100000 in
theorem order_any (A1 A2 A3 A4 A5 A6 : Option Addr) (n1 c1 n2 c2 n3 c3 n4 c4 n5 c5 n6 c6 : Nat) (la lb lc at_ : Int) (f1 f2 f3 f4 f5 f6 : Nat → Int) (w : World)
    (k1 : Ia w A1 n1 f1) (k2 : Ia w A2 n2 f2) (k3 : Ia w A3 n3 f3) (k4 : Ia w A4 n4 f4) (k5 : Ia w A5 n5 f5) (k6 : Ia w A6 n6 f6) :
    Calls Try.prog 5 #[.agg #[.slice A1 n1 c1, .slice A2 n2 c2, .int .i64 la], .agg #[.slice A3 n3 c3, .slice A4 n4 c4, .int .i64 lb], .agg #[.slice A5 n5 c5, .slice A6 n6 c6, .int .i64 lc], .int .i64 at_] w fun e w' => e = .returned (.bool true) ∧ Below w.heap.size w w' := by
  obtain ⟨b0, x0, y0, z0⟩ := al4 w (.cells #[.slice A1 n1 c1, .slice A2 n2 c2, .int .i64 la] 37 (0, 0)) (.cells #[.slice A3 n3 c3, .slice A4 n4 c4, .int .i64 lb] 37 (0, 0)) (.cells #[.slice A5 n5 c5, .slice A6 n6 c6, .int .i64 lc] 37 (0, 0))
  have HX := Lib.hid x0
  have HY := Lib.hid y0
  have HZ := Lib.hid z0
  have HB := Lib.hid b0
  have K1 := Lib.hid (k1.call b0)
  have K2 := Lib.hid (k2.call b0)
  have K3 := Lib.hid (k3.call b0)
  have K4 := Lib.hid (k4.call b0)
  have K5 := Lib.hid (k5.call b0)
  have K6 := Lib.hid (k6.call b0)
  clear b0 x0 y0 z0 k1 k2 k3 k4 k5 k6
  go_enter Try.func5, Try.ntmps5
  go_wp2_with fail
  generalize ((w.alloc (.cells #[.slice A1 n1 c1, .slice A2 n2 c2, .int .i64 la] 37 (0, 0))).alloc (.cells #[.slice A3 n3 c3, .slice A4 n4 c4, .int .i64 lb] 37 (0, 0))).alloc (.cells #[.slice A5 n5 c5, .slice A6 n6 c6, .int .i64 lc] 37 (0, 0)) = w5 at *
  have KS : Hid (∀ w' : World, Below w5.heap.size w5 w' → (w'.cell? ⟨w.heap.size, 0, none⟩ = some (.slice A1 n1 c1) ∧ w'.cell? ⟨w.heap.size, 1, none⟩ = some (.slice A2 n2 c2) ∧ w'.cell? ⟨w.heap.size, 2, none⟩ = some (.int .i64 la)) ∧ (w'.cell? ⟨w.heap.size + 1, 0, none⟩ = some (.slice A3 n3 c3) ∧ w'.cell? ⟨w.heap.size + 1, 1, none⟩ = some (.slice A4 n4 c4) ∧ w'.cell? ⟨w.heap.size + 1, 2, none⟩ = some (.int .i64 lb)) ∧ (w'.cell? ⟨w.heap.size + 1 + 1, 0, none⟩ = some (.slice A5 n5 c5) ∧ w'.cell? ⟨w.heap.size + 1 + 1, 1, none⟩ = some (.slice A6 n6 c6) ∧ w'.cell? ⟨w.heap.size + 1 + 1, 2, none⟩ = some (.int .i64 lc)) ∧ Below w5.heap.size w5 w') :=
    fun w' hk => ⟨blk3 (blk_call HX.out hk), blk3 (blk_call HY.out hk), blk3 (blk_call HZ.out hk), hk⟩
  go_region_held3 (fun w' => (w'.cell? ⟨w.heap.size, 0, none⟩ = some (.slice A1 n1 c1) ∧ w'.cell? ⟨w.heap.size, 1, none⟩ = some (.slice A2 n2 c2) ∧ w'.cell? ⟨w.heap.size, 2, none⟩ = some (.int .i64 la)) ∧ (w'.cell? ⟨w.heap.size + 1, 0, none⟩ = some (.slice A3 n3 c3) ∧ w'.cell? ⟨w.heap.size + 1, 1, none⟩ = some (.slice A4 n4 c4) ∧ w'.cell? ⟨w.heap.size + 1, 2, none⟩ = some (.int .i64 lb)) ∧ (w'.cell? ⟨w.heap.size + 1 + 1, 0, none⟩ = some (.slice A5 n5 c5) ∧ w'.cell? ⟨w.heap.size + 1 + 1, 1, none⟩ = some (.slice A6 n6 c6) ∧ w'.cell? ⟨w.heap.size + 1 + 1, 2, none⟩ = some (.int .i64 lc)) ∧ Below w5.heap.size w5 w')
    (first | exact KS.out _ ((Below.refl _ _).drew) | exact KS.out _ M3.out | exact KS.out _ M2.out | exact KS.out _ M1.out)
    (first
      | (go_at_call_of 13 A1; refine (segs13 A1 A2 n1 c1 n2 c2 la f1 f2 _ (K1.out.call ((Below.refl _ _).drew)) (K2.out.call ((Below.refl _ _).drew))).mono ?_; rintro e w1 ⟨va, l, rfl, hg, hk, h⟩; have M1 := Lib.hid (((Below.refl w5.heap.size w5).drew).trans h); have G1 := Lib.hid hg; have Q1 := Lib.hid hk; obtain ⟨Aa, na, ca, rfl⟩ := hg.shape; clear hg hk h)
      | (go_at_call_of 13 A3; refine (segs13 A3 A4 n3 c3 n4 c4 lb f3 f4 _ (K3.out.call M1.out) (K4.out.call M1.out)).mono ?_; rintro e w2 ⟨vb, m, rfl, hg, hk, h⟩; have M2 := Lib.hid (M1.out.trans (h.mono M1.out.size)); have G1b := Lib.hid (G1.out.call h); have G2 := Lib.hid hg; have Q2 := Lib.hid hk; obtain ⟨Ab, nb, cb, rfl⟩ := hg.shape; clear hg hk h)
      | (go_at_call_of 13 A5; refine (segs13 A5 A6 n5 c5 n6 c6 lc f5 f6 _ (K5.out.call M2.out) (K6.out.call M2.out)).mono ?_; rintro e w3 ⟨vc, r, rfl, hg, hk, h⟩; have M3 := Lib.hid (M2.out.trans (h.mono M2.out.size)); have G1c := Lib.hid (G1b.out.call h).1; have G2c := Lib.hid (G2.out.call h).1; have G3c := Lib.hid hg.1; have Q3 := Lib.hid hk; obtain ⟨Ac, nc, cc, rfl⟩ := hg.shape; clear hg hk h))
  have HBW := Lib.hid (HB.out.trans (M3.out.mono HB.out.size))
  have z1 : l.length ≤ 5 := Q1.out
  have z2 : m.length ≤ 5 := Q2.out
  have z3 : r.length ≤ 5 := Q3.out
  clear HX HY HZ KS K1 K2 K3 K4 K5 K6 HB M1 G1 Q1 Q2 M2 G1b G2 M3 Q3
  have W1 := Lib.hid (ways l m r)
  obtain ⟨cl, cap1, hv1⟩ : ∃ cl cap1, Value.slice Aa na ca = .slice cl l.length cap1 := by obtain ⟨A, cap, e, _⟩ := G1c.out; exact ⟨A, cap, e⟩
  simp only [Value.slice.injEq] at hv1
  obtain ⟨rfl, rfl, rfl⟩ := hv1
  have X1 := Lib.hid (compare8 _ _ l m w3 G1c.out G2c.out (by omega) (by omega))
  have X2 := Lib.hid (fun W hW => compare8 _ _ m r W (G2c.out.drN hW) (G3c.out.drN hW) (by omega) (by omega))
  have X3 := Lib.hid (fun W hW => compare8 _ _ l r W (G1c.out.drN hW) (G3c.out.drN hW) (by omega) (by omega))
  have X4 := Lib.hid (fun W hW => compare8 _ _ m l W (G2c.out.drN hW) (G1c.out.drN hW) (by omega) (by omega))
  have X5 := Lib.hid (fun W hW => sameG _ _ l m W (G1c.out.drN hW) (G2c.out.drN hW) (by omega))
  have X6 := Lib.hid (fun W hW => compare8 _ _ l l W (G1c.out.call hW) (G1c.out.call hW) (by omega) (by omega))
  generalize cP l m = p1 at *
  generalize cP m l = p2 at *
  generalize cP m r = p3 at *
  generalize cP l r = p4 at *
  generalize hdd : decide (l = m) = dd at *
  have HL : Hid (cP l l = 0) := W1.out.1
  generalize cP l l = p5 at *
  obtain rfl : p5 = 0 := HL.out
  clear hdd HL G2c G3c z2 z3
  have W2 := W1.out.2
  clear W1
  rcases W2 with ⟨rfl, rfl, rfl⟩ | ⟨rfl, rfl, rfl, ⟨d1, d2⟩ | d1⟩ | ⟨rfl, rfl, rfl, ⟨d1, d2⟩ | d1⟩
  all_goals
    go_wp2_with fail
    refine X1.out.mono ?_
    rintro e u1 ⟨rfl, hq1⟩
    have T1 := Lib.hid hq1
    clear hq1
    go_wp2_with fail
    refine (X2.out _ T1.out).mono ?_
    rintro e u2 ⟨rfl, hq2⟩
    have T2 := Lib.hid (drT T1.out hq2)
    clear hq2
    go_wp2_with fail
    refine (X3.out _ T2.out).mono ?_
    rintro e u3 ⟨rfl, hq3⟩
    have T3 := Lib.hid (drT T2.out hq3)
    clear hq3
    go_wp2_with fail
    refine (X4.out _ T3.out).mono ?_
    rintro e u4 ⟨rfl, hq4⟩
    have T4 := Lib.hid (drT T3.out hq4)
    clear hq4
    go_wp2_with fail
    refine (X5.out _ T4.out).mono ?_
    rintro e u5 ⟨rfl, hq5⟩
    have T5 := Lib.hid ((drB T4.out w3.heap.size).trans (hq5.mono (drB T4.out w3.heap.size).size))
    clear hq5
    go_wp2_with fail
    refine (X6.out _ T5.out).mono ?_
    rintro e u6 ⟨rfl, hq6⟩
    have T6 := Lib.hid (T5.out.trans (drB hq6 _))
    clear hq6
    go_wp2_with fail
    clear X1 X2 X3 X4 X5 X6 T1 T2 T3 T4 T5
    go_loopw [66] (fun i wr => ∃ (k : Nat), k ≤ l.length ∧ i = .int .i64 k ∧ Below w3.heap.size w3 wr) (fun i _ => l.length - (intOf i).toNat)
    case atStart => exact ⟨0, Nat.zero_le _, rfl, T6.out⟩
    case round =>
      obtain ⟨k, hk, rfl, hbw⟩ := hrel
      have HW := Lib.hid hbw
      clear hbw
      by_cases hlt : k < l.length
      · have d0 : (k : Int) < (l.length : Int) := by omega
        have GW := Lib.hid (G1c.out.call HW.out)
        obtain ⟨A', cap', e', hcc, hca, hcx⟩ := GW.out
        simp only [Value.slice.injEq] at e'
        obtain ⟨rfl, -, rfl⟩ := e'
        have HCX := Lib.hid hcx
        have HCA := Lib.hid hca
        obtain ⟨b, o, rfl, g1, _⟩ := HCX.out k hlt
        clear hcx hca
        have HK := Lib.hid (cP_set l k ⟨#[122, 122]⟩ hlt)
        generalize hkd : (l.getD k default).1 = kd at *
        by_cases hk1 : kd = 1
        · have q0 : (kd == 1) = true := by simp [hk1]
          have HCS := Lib.hid (HK.out hk1)
          clear hk1 HK
          have hwi := within_any at_ ((l.length : Int) - 1) wr (by omega) (by omega)
          by_cases hwe : (k : Int) = wi at_ ((l.length : Int) - 1)
          · have q1 : ((k : Int) == wi at_ ((l.length : Int) - 1)) = true := by simp [hwe]
            have Q1 := Lib.hid q1
            generalize wi at_ ((l.length : Int) - 1) = wv at *
            have q1 := Q1.out
            clear Q1 hwe
            go_upto_region 9 with (first | (go_at_call 15; refine hwi.mono ?_; rintro e w' ⟨rfl, hww⟩; subst hww))
            clear hwi q0 q1 g1 hkd
            have HE := Lib.hid (empG wr.heap.size wr wr (Below.refl _ _) (Nat.le_refl _))
            have BE := Lib.hid ((Below.refl wr.heap.size wr).alloc (Nat.le_refl _) (.cells #[] 23 (0, 0)))
            have SRC : Hid (∀ i, i < l.length → ∃ b' off', (some (⟨b, o, none⟩ : Addr)) = some ⟨b', off', none⟩ ∧ (wr.alloc (.cells #[] 23 (0, 0))).cell? ⟨b', off' + i * 2, none⟩ = some (.int .i64 (l.getD i default).1) ∧ (wr.alloc (.cells #[] 23 (0, 0))).cell? ⟨b', off' + i * 2 + 1, none⟩ = some (.string (l.getD i default).2)) := by
              intro i hi
              obtain ⟨b', o', e, h1, h2⟩ := HCX.out i hi
              exact ⟨b', o', e, by rw [BE.out.cell (World.block_lt_of_cell? _ _ h1)]; exact h1, by rw [BE.out.cell (World.block_lt_of_cell? _ _ h2)]; exact h2⟩
            go_wp2_with (first | (at_builtin; refine wpList_fewG _ rfl (.tmp 84) (.tmp 85) rfl wr.heap.size wr _ rfl HE.out _ _ _ l rfl rfl (by omega) hcc HCA.out SRC.out ?_))
            intro v4 w4 h4 _
            have H4 := Lib.hid (h4.alloc (.cells #[.int .i64 0, .string ⟨#[122, 122]⟩] 23 (0, 0)))
            have HL4 := Lib.hid h4
            clear h4
            obtain ⟨g, cap4, rfl, hBg, s1, s2, s3, s4, hset⟩ := H4.out.sto hlt
            have HS := Lib.hid (hset 0 ⟨#[122, 122]⟩)
            clear hset
            generalize (l.getD k default).1 = y1 at *
            generalize (l.getD k default).2 = y2 at *
            go_wp2_with (first | (go_at_call 7; refine (seg7 _ _ _).mono ?_; rintro e w' ⟨rfl, hww⟩; subst hww))
            have GZ := Lib.hid ((GW.out.call HS.out.2))
            refine (compare8 _ _ (l.set k (0, ⟨#[122, 122]⟩)) l _ HS.out.1 GZ.out (by rw [List.length_set]; omega) (by omega)).mono ?_
            rintro e w7 ⟨rfl, hq⟩
            rw [HCS.out]
            have HN := Lib.hid (HW.out.trans ((HS.out.2.trans (drB hq _)).mono HW.out.size))
            clear hq
            go_wp2_with fail
            go_roundw
            case rel => exact ⟨k + 1, by omega, by go_num, HN.out⟩
            case measure => simp [intOf]; omega
          · have q1 : ((k : Int) == wi at_ ((l.length : Int) - 1)) = false := by simp [hwe]
            have Q1 := Lib.hid q1
            generalize wi at_ ((l.length : Int) - 1) = wv at *
            have q1 := Q1.out
            clear Q1 hwe
            go_wp2_with (first | (go_at_call 15; refine hwi.mono ?_; rintro e w' ⟨rfl, hww⟩; subst hww))
            go_roundw
            case rel => exact ⟨k + 1, by omega, by go_num, HW.out⟩
            case measure => simp [intOf]; omega
        · have q0 : (kd == 1) = false := by simp [hk1]
          clear hk1 HK
          go_wp2_with fail
          go_roundw
          case rel => exact ⟨k + 1, by omega, by go_num, HW.out⟩
          case measure => simp [intOf]; omega
      · obtain rfl : k = l.length := by omega
        go_wp2_with (first | (go_at_call 3; refine (rankRuns_any _).mono ?_; rintro e w' ⟨rfl, hww⟩; have HR := Lib.hid hww; clear hww))
        go_ret
        exact ⟨rfl, HBW.out.trans ((HW.out.trans (HR.out.mono HW.out.size)).mono HBW.out.size)⟩
end Go.Proofs.Ytapfepmioiacbaa
