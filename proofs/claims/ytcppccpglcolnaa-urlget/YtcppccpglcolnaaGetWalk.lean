/-
  URLGet, walked.
-/
import Derived.Test.YtcppccpglcolnaaTurnedWalk
import Derived.Deep.RegionHeld3
import Derived.Test.YtcppccpglcolnaaGetReg
namespace Go.Proofs.Ytcppccpglcolnaa
open Go.RowKit Go.PlainAid

theorem words_new : ∀ s ∈ wordsL, ¬ s = newS := by
  have h : wordsL.all (fun s => decide (¬ s = newS)) = true := by decide +kernel
  intro s hs
  rw [List.all_eq_true] at h
  exact of_decide_eq_true (h s hs)
theorem keep_new {p : List ByteArray} {q : List Pr} (h : KeepOK p q) : q.all (fun x => decide (¬ x.1 = newS)) = true := by
  rw [List.all_eq_true]
  intro x hx
  exact decide_eq_true (words_new _ (h.2.2.2 x hx).1)
theorem gt_more (q : List Pr) (a b : ByteArray) (h : q.all (fun x => decide (¬ x.1 = newS)) = true) : gtS (q ++ [(newS, a), (newS, b)]) newS = a ∧ gtB (q ++ [(newS, a), (newS, b)]) newS = true := by
  have e : gtF (q ++ [(newS, a), (newS, b)]) newS = some a := by
    rw [gtF, List.find?_append, List.find?_eq_none.2 ?_]
    · simp
    · intro x hx
      rw [List.all_eq_true] at h
      have := of_decide_eq_true (h x hx)
      simpa using this
  rw [gtS, gtB, e]
  exact ⟨rfl, rfl⟩
theorem gt_mem (q : List Pr) (k : Nat) (h : k < q.length) : gtB q (q.getD k default).1 = true := by
  rw [gtB, gtF, Option.isSome_map, List.find?_isSome]
  exact ⟨_, getD_mem q k h, by simp⟩

set_option maxRecDepth 100000 in
set_option maxHeartbeats 6400000 in
theorem geturl_any (A1 A2 A3 : Option Addr) (n1 c1 n2 c2 n3 c3 : Nat) (f1 f2 f3 : Nat → Int) (nm : ByteArray) (at_ : Int) (w : World) (h1 : Ia w A1 n1 f1) (h2 : Ia w A2 n2 f2) (h3 : Ia w A3 n3 f3) (m : Nat)
    (hif : (if (9 : Int) < (nm.size : Int) then (9 : Int) else (nm.size : Int)) = (m : Int)) (y0 : (0 : Int) ≤ (m : Int)) (y1 : (m : Int) ≤ (nm.size : Int)) :
    Calls Try.prog 8 #[.agg #[.slice A1 n1 c1, .slice A2 n2 c2, .slice A3 n3 c3], .string nm, .int .i64 at_] w fun e w' => e = .returned (.bool true) ∧ Below w.heap.size w w' := by
  have H1 := Lib.hid h1
  have H2 := Lib.hid h2
  have H3 := Lib.hid h3
  clear h1 h2 h3
  have HB := Lib.hid ((Below.refl w.heap.size w).alloc (Nat.le_refl _) (.cells #[.slice A1 n1 c1, .slice A2 n2 c2, .slice A3 n3 c3] 44 (0, 0)))
  go_enter Try.func8, Try.ntmps8
  go_wp2_with fail
  generalize w.alloc (.cells #[.slice A1 n1 c1, .slice A2 n2 c2, .slice A3 n3 c3] 44) = w5 at *
  refine (url21 _ _ _ _ _ _ _ _ _ f1 f2 f3 _ (H1.out.call HB.out) (H2.out.call HB.out) (H3.out.call HB.out)).mono ?_
  rintro e w6 ⟨v1, v2, p, q, rfl, g1, g2, g3, g4⟩
  obtain ⟨V1, d1, e1, rfl⟩ := g1.shape
  obtain ⟨V2, e2, hv2, q8, q9, _⟩ := id g2
  subst hv2
  have hq3 : q.length ≤ 3 := g3.2.1
  have HQ8 := Lib.hid (show q.length ≤ e2 ∧ (V2 = none → e2 = 0) from ⟨q8, q9⟩)
  have GB := Lib.hid ((Below.refl w6.heap.size w6).alloc (Nat.le_refl _) (.cells #[.slice V1 d1 e1, .slice V2 q.length e2] 25 (0, 0)))
  have N7 := Lib.hid (blk_new w6 (.cells #[.slice V1 d1 e1, .slice V2 q.length e2] 25 (0, 0)))
  have G1 := Lib.hid (g1.call GB.out)
  have G2 := Lib.hid (g2.call GB.out)
  have hr := keep_right g3
  have KN := Lib.hid (keep_new g3)
  have hsz := prn_size hr
  obtain ⟨r1, r2, r3⟩ := par_prn hr
  have er : erI (parB (prnS p q)) = 0 := by rw [r1]; rfl
  have R2 := Lib.hid r2
  have R3 := Lib.hid r3
  have T7 := Lib.hid (HB.out.trans ((g4.trans (GB.out.mono g4.size)).mono HB.out.size))
  clear g1 g2 g3 g4 hr r1 r2 r3 q8 q9
  go_wp2_with fail
  generalize w6.alloc (.cells #[.slice V1 d1 e1, .slice V2 q.length e2] 25 (0, 0)) = w7 at *
  refine (print12 _ _ _ _ _ G1.out G2.out).mono ?_
  rintro e w8 ⟨rfl, h8⟩
  have B8 := Lib.hid h8
  clear h8
  go_wp2_with fail
  refine (parse9 _ _ (by omega)).mono ?_
  rintro e w9 ⟨v1, v2, rfl, g1, g2, g3⟩
  rw [er]
  rw [R2.out] at g1
  rw [R3.out] at g2
  obtain ⟨V3, d3, e3, rfl⟩ := g1.shape
  obtain ⟨V4, d4, e4, rfl⟩ := g2.shape
  have N10 := Lib.hid (blk_new w9 (.cells #[.slice V3 d3 e3, .slice V4 d4 e4] 25 (0, 0)))
  have GB9 := Lib.hid ((Below.refl w9.heap.size w9).alloc (Nat.le_refl _) (.cells #[.slice V3 d3 e3, .slice V4 d4 e4] 25 (0, 0)))
  have G3 := Lib.hid (g1.call GB9.out)
  have G4 := Lib.hid (g2.call GB9.out)
  have B10 := Lib.hid (B8.out.trans ((g3.trans (GB9.out.mono g3.size)).mono B8.out.size))
  clear g1 g2 g3 er
  obtain ⟨x0, x1, _, _⟩ := blk2 (show (w9.alloc (.cells #[.slice V3 d3 e3, .slice V4 d4 e4] 25 (0, 0))).heap[w6.heap.size]? = _ from blk_call N7.out B10.out)
  go_upto_if 38 with fail
  generalize w9.alloc (.cells #[.slice V3 d3 e3, .slice V4 d4 e4] 25) = w10 at *
  have X10 := Lib.hid (blk_call N7.out B10.out)
  have K1 := Lib.hid (G1.out.call B10.out)
  have K2 := Lib.hid (G2.out.call B10.out)
  have T10 := Lib.hid (T7.out.trans (B10.out.mono T7.out.size))
  clear G1 G2 N7 B8 B10 GB GB9 T7 HB H1 H2 H3 R2 R3
  go_cut [10] from 38 (fun v wz => ∃ s : ByteArray, v = .string s ∧ (q = [] ∨ gtB q s = true) ∧ Below w10.heap.size w10 wz)
  case first =>
    by_cases hq : q = []
    · have hq0 : q.length = 0 := by rw [hq]; rfl
      have d9 : decide ((0 : Int) < (q.length : Int)) = false := decide_eq_false (by omega)
      have d8 : decide (0 < q.length) = false := decide_eq_false (by omega)
      have HQ := Lib.hid hq
      clear hq hq0
      (try rw [d9])
      (try rw [d8])
      go_wp2_with fail
      go_meet
      exact ⟨_, rfl, Or.inl HQ.out, Below.refl _ _⟩
    · have hq0 : 0 < q.length := List.length_pos_iff.2 hq
      have d9 : decide ((0 : Int) < (q.length : Int)) = true := decide_eq_true (by omega)
      have d8 : decide (0 < q.length) = true := decide_eq_true (by omega)
      obtain ⟨rn, hrn, hr12⟩ : ∃ rn : Nat, wi at_ ((q.length - 1 : Nat) : Int) = (rn : Int) ∧ rn < q.length := by
        have := wi_in at_ ((q.length - 1 : Nat) : Int) (by omega)
        exact ⟨(wi at_ ((q.length - 1 : Nat) : Int)).toNat, by omega, by omega⟩
      obtain ⟨A', cap', hv', _, _, hcc⟩ := K2.out
      obtain ⟨b, o, hA, g1, g2⟩ := hcc rn hr12
      simp only [Value.slice.injEq] at hv'
      obtain ⟨hv1, _, hv3⟩ := hv'
      subst hv3
      rw [hA] at hv1
      subst hv1
      have hri : (rn : Int) < (q.length : Int) := by omega
      have hw1 : IntKind.i64.wrap ((q.length : Int) - 1) = ((q.length - 1 : Nat) : Int) := by rw [IntKind.wrap_i64]; omega
      have HM := Lib.hid (gt_mem q rn hr12)
      have HRN := Lib.hid hrn
      clear hq hq0 hcc hA hrn g2
      generalize q.getD rn default = xx at *
      (try rw [d9])
      (try rw [d8])
      clear d8 d9
      go_wp2_with fail
      go_region_held3 (fun w' => w'.cell? ⟨w6.heap.size, 0, none⟩ = some (.slice V1 d1 e1) ∧ w'.cell? ⟨w6.heap.size, 1, none⟩ = some (.slice (some ⟨b, o, none⟩) q.length e2) ∧ w'.cell? ⟨b, o + rn * 2, none⟩ = some (.string xx.1))
        (first | exact ⟨x0, x1, g1⟩)
        (first | (go_at_call 22; refine (within_nat _ (q.length - 1) rn _ (by omega) HRN.out).mono ?_; rintro e w' ⟨rfl, rfl⟩))
      go_wp2_with fail
      go_meet
      exact ⟨_, rfl, Or.inr HM.out, (Below.refl _ _).drew⟩
  case rest =>
    obtain ⟨s, rfl, hgs, hz⟩ := hcut
    have HGS := Lib.hid hgs
    have HZ := Lib.hid hz
    clear hgs hz x0 x1
    obtain ⟨x0, x1, _, _⟩ := blk2 (blk_call X10.out HZ.out)
    obtain ⟨z0, z1, _, _⟩ := blk2 (blk_call N10.out HZ.out)
    go_wp2_with fail
    refine (get15 _ _ _ _ _ _ (K1.out.call HZ.out) (K2.out.call HZ.out) (by omega)).mono ?_
    rintro e w11 ⟨rfl, h⟩
    have Z11 := Lib.hid (HZ.out.trans (h.mono HZ.out.size))
    clear h
    obtain ⟨z0, z1, _, _⟩ := blk2 (blk_call N10.out Z11.out)
    go_wp2_with fail
    refine (get15 _ _ _ _ _ _ (G3.out.call Z11.out) (G4.out.call Z11.out) (by omega)).mono ?_
    rintro e w12 ⟨rfl, h⟩
    have Z12 := Lib.hid (Z11.out.trans (h.mono Z11.out.size))
    clear h
    have KS : Hid (∀ w' : World, Below w12.heap.size w12 w' → w'.cell? ⟨w6.heap.size, 0, none⟩ = some (.slice V1 d1 e1) ∧ w'.cell? ⟨w6.heap.size, 1, none⟩ = some (.slice V2 q.length e2) ∧ Below w12.heap.size w12 w') := by
      intro w' hk
      obtain ⟨a, b, _, _⟩ := blk2 (blk_call (blk_call X10.out Z12.out) hk)
      exact ⟨a, b, hk⟩
    go_upto_region 10 with fail
    go_cut [15] from 62 (fun v wz => ∃ N A n c, v = .pointer (some ⟨N, 0, none⟩) ∧ wz.heap[N]? = some (.cells #[.slice V1 d1 e1, .slice A n c] 25 (0, 0)) ∧ Ps wz (.slice A n c) (q ++ [(newS, ⟨#[49]⟩), (newS, ⟨#[50]⟩)]) ∧ Below w12.heap.size w12 wz)
    case first =>
      have hSd : (fun w' : World => w'.cell? ⟨w6.heap.size, 0, none⟩ = some (.slice V1 d1 e1) ∧ w'.cell? ⟨w6.heap.size, 1, none⟩ = some (.slice V2 q.length e2) ∧ Below w12.heap.size w12 w') w12.drew := KS.out _ ((Below.refl _ _).drew)
      refine wp_region_sink (S := fun w' : World => w'.cell? ⟨w6.heap.size, 0, none⟩ = some (.slice V1 d1 e1) ∧ w'.cell? ⟨w6.heap.size, 1, none⟩ = some (.slice V2 q.length e2) ∧ Below w12.heap.size w12 w') (n := 1000) (by kernel_rfl) ?_
      change wpSink _ _ _ _ _ 1000 13 _ _ _
      refine sink_take0 (i := 0) (v := ?_) rfl (by kernel_rfl) (by decide) (by kernel_rfl) (by kernel_rfl) (fun _ _ _ h => h) (Or.inl ⟨by rfl, ?_⟩) hSd ?_
      rotate_left
      · intro wz hSw
        (try dsimp only at hSw)
        go_simp
        (try with_reducible rfl)
      try simp only [Act.put]
      refine sink_take0 (i := 1) (v := ?_) rfl (by kernel_rfl) (by decide) (by kernel_rfl) (by kernel_rfl) (fun _ _ _ h => h) (Or.inl ⟨by rfl, ?_⟩) hSd ?_
      rotate_left
      · intro wz hSw
        (try dsimp only at hSw)
        go_simp
        (try with_reducible rfl)
      try simp only [Act.put]
      refine sink_take0 (i := 3) (v := ?_) rfl (by kernel_rfl) (by decide) (by kernel_rfl) (by kernel_rfl) (fun _ _ _ h => h) (Or.inl ⟨by rfl, ?_⟩) hSd ?_
      rotate_left
      · intro wz hSw
        (try dsimp only at hSw)
        go_simp
        (try with_reducible rfl)
      try simp only [Act.put]
      refine sink_take0 (i := 4) (v := ?_) rfl (by kernel_rfl) (by decide) (by kernel_rfl) (by kernel_rfl) (fun _ _ _ h => h) (Or.inl ⟨by rfl, ?_⟩) hSd ?_
      rotate_left
      · intro wz hSw
        (try dsimp only at hSw)
        go_simp
        (try with_reducible rfl)
      try simp only [Act.put]
      refine sink_take0 (i := 6) (v := ?_) rfl (by kernel_rfl) (by decide) (by kernel_rfl) (by kernel_rfl) (fun _ _ _ h => h) (Or.inl ⟨by rfl, ?_⟩) hSd ?_
      rotate_left
      · intro wz hSw
        (try dsimp only at hSw)
        go_simp
        (try with_reducible rfl)
      try simp only [Act.put]
      refine sink_take0 (i := 7) (v := ?_) rfl (by kernel_rfl) (by decide) (by kernel_rfl) (by kernel_rfl) (fun _ _ _ h => h) (Or.inl ⟨by rfl, ?_⟩) hSd ?_
      rotate_left
      · intro wz hSw
        (try dsimp only at hSw)
        go_simp
        (try with_reducible rfl)
      try simp only [Act.put]
      refine sink_inv (I := fun ls a W => ∃ (b2 b5 b8 b9 b10 b11 b12 : Bool) (t64 t67 t70 t71 t72 t15 : Value), ls = #[true, true, b2, true, true, b5, true, true, b8, b9, b10, b11, b12] ∧ a = (⟨#[Value.agg #[Value.slice A1 n1 c1, Value.slice A2 n2 c2, Value.slice A3 n3 c3], Value.string nm, Value.int IntKind.i64 at_, Value.pointer (some { block := w.heap.size, off := 0 }), undef, undef, Value.bool false, Value.pointer (some { block := w6.heap.size, off := 0 }), Value.pointer (some { block := w9.heap.size, off := 0 }), Value.int IntKind.i64 0, Value.string s, Value.string (gtS q s), Value.bool (gtB q s), Value.string (gtS q s), Value.bool (gtB q s), t15, undef, undef, undef, undef, Value.agg #[Value.slice A1 n1 c1, Value.slice A2 n2 c2, Value.slice A3 n3 c3], Value.agg #[Value.slice V1 d1 e1, Value.slice V2 q.length e2], Value.tuple #[Value.agg #[Value.slice V3 d3 e3, Value.slice V4 d4 e4], Value.int IntKind.i64 0], Value.agg #[Value.slice V1 d1 e1, Value.slice V2 q.length e2], Value.string (prnS p q), Value.tuple #[Value.agg #[Value.slice V3 d3 e3, Value.slice V4 d4 e4], Value.int IntKind.i64 0], Value.agg #[Value.slice V3 d3 e3, Value.slice V4 d4 e4], Value.int IntKind.i64 0, Value.int IntKind.i64 0, Value.bool false, Value.string nm, Value.string nm, Value.int IntKind.i64 ↑nm.size, Value.int IntKind.i64 ↑m, Value.string (nm.extract 0 m), Value.pointer (some { block := w6.heap.size, off := 1 }), Value.slice V2 q.length e2, Value.int IntKind.i64 ↑q.length, u38, u39, u40, u41, u42, u43, u44, u45, u46, u47, u48, u49, Value.tuple #[Value.string (gtS q s), Value.bool (gtB q s)], Value.agg #[Value.slice V1 d1 e1, Value.slice V2 q.length e2], Value.string s, Value.tuple #[Value.string (gtS q s), Value.bool (gtB q s)], Value.string (gtS q s), Value.bool (gtB q s), Value.tuple #[Value.string (gtS q s), Value.bool (gtB q s)], Value.agg #[Value.slice V3 d3 e3, Value.slice V4 d4 e4], Value.string s, Value.tuple #[Value.string (gtS q s), Value.bool (gtB q s)], Value.string (gtS q s), Value.bool (gtB q s), .pointer (some ⟨w6.heap.size, 0, none⟩), .slice V1 d1 e1, t64, .pointer (some ⟨w6.heap.size, 1, none⟩), .slice V2 q.length e2, t67, .agg #[.string ⟨#[110, 101, 119]⟩, .string ⟨#[49]⟩], .agg #[.string ⟨#[110, 101, 119]⟩, .string ⟨#[50]⟩], t70, t71, t72, u73, u74, u75, u76, u77, u78, u79, u80, u81, u82, u83, u84, u85, u86, u87, u88, u89, u90, u91, u92, u93, u94, u95, u96, u97, u98, u99, u100, u101, u102, u103, u104, u105, u106, u107, u108, u109, u110, u111, u112, u113], []⟩ : Act) ∧ GI w12 (.slice V1 d1 e1) q b2 b5 b8 b9 b10 b11 b12 t64 t67 t70 t71 t72 t15 W) (by kernel_rfl) ?_ ?_ ?_ 7 _ _ _ (by decide) ?_
      · rintro ls a W ⟨b2, b5, b8, b9, b10, b11, b12, t64, t67, t70, t71, t72, t15, rfl, rfl, hg⟩
        rfl
      · rintro i hi ls a W ⟨b2, b5, b8, b9, b10, b11, b12, t64, t67, t70, t71, t72, t15, rfl, rfl, hg⟩ hr
        have hi13 : i < 13 := hi
        have HG := Lib.hid hg
        have HR := Lib.hid hr
        clear hg hr hi
        obtain rfl | rfl | rfl | rfl | rfl | rfl | rfl | rfl | rfl | rfl | rfl | rfl | rfl : i = 0 ∨ i = 1 ∨ i = 3 ∨ i = 4 ∨ i = 6 ∨ i = 7 ∨ i = 2 ∨ i = 5 ∨ i = 8 ∨ i = 9 ∨ i = 10 ∨ i = 11 ∨ i = 12 := by omega
        · cases (show true = false from ready_un HR.out)
        · cases (show true = false from ready_un HR.out)
        · cases (show true = false from ready_un HR.out)
        · cases (show true = false from ready_un HR.out)
        · cases (show true = false from ready_un HR.out)
        · cases (show true = false from ready_un HR.out)
        · obtain rfl : b2 = false := ready_un HR.out
          refine wpOp_step rfl (fun K' hK => ?_)
          have HK := Lib.hid hK
          clear hK
          rw [if_pos (by rfl)]
          go_simp
          have hn := gi2 HG.out
          exact HK.out _ _ ⟨Or.inr (KS.out _ hn.bel), _, _, _, _, _, _, _, _, _, _, _, _, _, rfl, rfl, hn⟩
        · obtain rfl : b5 = false := ready_un HR.out
          obtain rfl : b2 = true := ready_dep (j := 2) (by kernel_rfl) HR.out
          obtain ⟨k, rfl, hk, ho⟩ := HG.out.f2 rfl rfl
          refine wpOp_step rfl (fun K' hK => ?_)
          refine step_fewP _ rfl (.tmp 64) (.tmp 66) rfl w12.heap.size w12 _ rfl ho V2 q.length e2 q rfl rfl (by omega) HQ8.out.1 HQ8.out.2 ?_ ?_
          · exact (K2.out.call (Z12.out.trans (HG.out.bel.mono Z12.out.size))).src
          intro v13 w13 h13 g13
          have hn := gi5 HG.out h13 g13
          exact hK _ _ ⟨Or.inr (KS.out _ hn.bel), _, _, _, _, _, _, _, _, _, _, _, _, _, rfl, rfl, hn⟩
        · obtain rfl : b8 = false := ready_un HR.out
          refine wpOp_step rfl (fun K' hK => ?_)
          have HK := Lib.hid hK
          clear hK
          rw [if_pos (by rfl)]
          go_simp
          have hn := gi8 HG.out
          exact HK.out _ _ ⟨Or.inr (KS.out _ hn.bel), _, _, _, _, _, _, _, _, _, _, _, _, _, rfl, rfl, hn⟩
        · obtain rfl : b9 = false := ready_un HR.out
          obtain rfl : b5 = true := ready_dep (j := 5) (by kernel_rfl) HR.out
          obtain rfl : b8 = true := ready_dep (j := 8) (by kernel_rfl) HR.out
          obtain ⟨k, rfl, hk⟩ := HG.out.f8 rfl rfl
          refine wpOp_step rfl (fun K' hK => ?_)
          refine step_appP _ rfl (.tmp 67) (.tmp 70) rfl w12.heap.size w12 _ q rfl (HG.out.f5 rfl rfl) (by omega) k 2 2 newQ rfl rfl (by omega) hk ?_
          intro v13 w13 h13 g13
          have hn := gi9 HG.out h13 g13
          exact hK _ _ ⟨Or.inr (KS.out _ hn.bel), _, _, _, _, _, _, _, _, _, _, _, _, _, rfl, rfl, hn⟩
        · obtain rfl : b10 = false := ready_un HR.out
          obtain rfl : b9 = true := ready_dep (j := 9) (by kernel_rfl) HR.out
          obtain ⟨A14, m14, k14, rfl, _⟩ := HG.out.f9 rfl
          refine wpOp_step rfl (fun K' hK => ?_)
          have HK := Lib.hid hK
          clear hK
          rw [if_pos (by rfl)]
          go_simp
          have hn := gi10 HG.out
          exact HK.out _ _ ⟨Or.inr (KS.out _ hn.bel), _, _, _, _, _, _, _, _, _, _, _, _, _, rfl, rfl, hn⟩
        · obtain rfl : b11 = false := ready_un HR.out
          refine wpOp_step rfl (fun K' hK => ?_)
          have HK := Lib.hid hK
          clear hK
          rw [if_pos (by rfl)]
          go_simp
          have hn := gi11 HG.out
          exact HK.out _ _ ⟨Or.inr (KS.out _ hn.bel), _, _, _, _, _, _, _, _, _, _, _, _, _, rfl, rfl, hn⟩
        · obtain rfl : b12 = false := ready_un HR.out
          obtain rfl : b9 = true := ready_dep (j := 9) (by kernel_rfl) HR.out
          obtain rfl : b10 = true := ready_dep (j := 10) (by kernel_rfl) HR.out
          obtain rfl : b11 = true := ready_dep (j := 11) (by kernel_rfl) HR.out
          obtain ⟨N, hN, rfl, hNb⟩ := HG.out.f11 rfl rfl
          obtain ⟨A14, m14, k14, rfl, _⟩ := HG.out.f9 rfl
          obtain rfl := HG.out.f10 rfl
          have HN := Lib.hid hN
          have HNB := Lib.hid hNb
          obtain ⟨r0, r1, r2, r3⟩ := blk2 hNb
          clear hN hNb
          refine wpOp_step rfl (fun K' hK => ?_)
          have HK := Lib.hid hK
          clear hK
          rw [if_pos (by rfl)]
          go_simp
          have hn := gi12 HG.out HN.out rfl HNB.out
          exact HK.out _ _ ⟨Or.inr (KS.out _ hn.bel), _, _, _, _, _, _, _, _, _, _, _, _, _, rfl, rfl, hn⟩
      · rintro ls a W ⟨b2, b5, b8, b9, b10, b11, b12, t64, t67, t70, t71, t72, t15, rfl, rfl, hg⟩ hall
        obtain rfl : b9 = true := hall 9 (by decide)
        obtain rfl : b12 = true := hall 12 (by decide)
        obtain ⟨N, rfl, hNb⟩ := hg.f12 rfl
        obtain ⟨A14, m14, k14, rfl, hps⟩ := hg.f9 rfl
        have hbel := hg.bel
        clear hg hall
        go_wp2_with fail
        go_meet
        exact ⟨N, A14, m14, k14, rfl, hNb, hps, hbel⟩
      · exact ⟨false, false, false, false, false, false, false, _, _, _, _, _, _, rfl, rfl, gi_start _ _ _ _ _ _ _ _ _ ((Below.refl _ _).drew)⟩
    case rest =>
      obtain ⟨N, A7, n7, c7, rfl, u1, u2, u3⟩ := hcut
      obtain ⟨t0, t1, _, _⟩ := blk2 u1
      have Q1 := Lib.hid u1
      have Q2 := Lib.hid u2
      have Q3 := Lib.hid u3
      have Q4 := Lib.hid ((K1.out.call Z12.out).call u3)
      have Z13 := Lib.hid (Z12.out.trans (u3.mono Z12.out.size))
      clear u1 u2 u3 KS
      obtain ⟨m1, m2⟩ := gt_more q ⟨#[49]⟩ ⟨#[50]⟩ KN.out
      obtain ⟨o1, o2⟩ := gt_none q newS KN.out
      have q9 : (q ++ [(newS, (⟨#[49]⟩ : ByteArray)), (newS, (⟨#[50]⟩ : ByteArray))]).length ≤ 100000 := by simp; omega
      have HQ9 := Lib.hid q9
      have M1 := Lib.hid m1
      have M2 := Lib.hid m2
      have O2 := Lib.hid o2
      clear q9 m1 m2 o1 o2
      go_wp2_with fail
      refine (get15 _ _ _ _ newS _ Q4.out Q2.out HQ9.out).mono ?_
      rintro e w14 ⟨rfl, h⟩
      rw [M1.out, M2.out]
      have Z14 := Lib.hid (Z13.out.trans (h.mono Z13.out.size))
      clear h
      obtain ⟨x0, x1, _, _⟩ := blk2 (blk_call X10.out Z14.out)
      go_wp2_with fail
      refine (get15 _ _ _ _ newS _ (K1.out.call Z14.out) (K2.out.call Z14.out) (by omega)).mono ?_
      rintro e w15 ⟨rfl, h⟩
      rw [O2.out]
      have Z15 := Lib.hid (Z14.out.trans (h.mono Z14.out.size))
      clear h
      obtain ⟨x0, x1, _, _⟩ := blk2 (blk_call X10.out Z15.out)
      by_cases hq : q.length = 0
      · have c0 : ((q.length : Int) == 0) = true := by rw [hq]; rfl
        clear hq
        go_wp2_with fail
        refine (urlRuns_any _).mono ?_
        rintro e w16 ⟨rfl, h⟩
        have Z16 := Lib.hid (Z15.out.trans (h.mono Z15.out.size))
        clear h
        go_wp2
        go_ret
        exact ⟨rfl, T10.out.trans (Z16.out.mono T10.out.size)⟩
      · have c0 : ((q.length : Int) == 0) = false := by
          have : ¬ (q.length : Int) = 0 := by omega
          simpa using this
        have hgb : gtB q s = true := by
          rcases HGS.out with h | h
          · exact absurd (by rw [h]; rfl) hq
          · exact h
        clear hq
        rw [hgb]
        go_wp2_with fail
        refine (urlRuns_any _).mono ?_
        rintro e w16 ⟨rfl, h⟩
        have Z16 := Lib.hid (Z15.out.trans (h.mono Z15.out.size))
        clear h
        go_wp2
        go_ret
        exact ⟨rfl, T10.out.trans (Z16.out.mono T10.out.size)⟩
end Go.Proofs.Ytcppccpglcolnaa
