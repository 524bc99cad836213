/-
  URLParts, walked.
-/
import Derived.Test.YtcppccpglcolnaaPartsReg
import Derived.Test.YtcppccpglcolnaaFew
import Derived.Deep.RegionHeld3
namespace Go.Proofs.Ytcppccpglcolnaa
open Go.RowKit Go.PlainAid
theorem wpList_fewS {ops : Array Oper} {rest : List Oper} {o : Oper} {a : Act} {Q : Exit → Act → World → Prop} (w : World) (hgd : o.guard = none) (s x : Operand)
    (ho : o.op = .call { callee := .builtin .append, args := #[s, x], argTypes := #[22, 22] })
    (B : Nat) (w0 : World) (v : Value) (hs : a.eval s = v) (hown : OwnS B w0 v [] w)
    (A : Option Addr) (m c : Nat) (ys : List ByteArray) (hx : a.eval x = .slice A m c) (hm : ys.length = m) (hm1 : m ≤ 10) (hc : m ≤ c) (hn : A = none → c = 0) (hb : ∀ ad, A = some ad → ∀ j u, (ys.flatMap stC)[j]? = some u → w.cell? (ad.add j) = some u)
    (h : ∀ v' w', OwnS B w0 v' ys w' → wpList Try.prog ops Q rest (a.put o.dst v') w') : wpList Try.prog ops Q (o :: rest) a w :=
  wpList_plain hgd fun K hK => by
    have hw : Region.wanted o (yielded ops a.tmps) = true := by unfold Region.wanted; rw [hgd]
    have := step_fewS (K := K) (Q := Q) (F := True) w hw s x ho B w0 v hs hown A m c ys hx hm hm1 hc hn hb fun v' w' h2 _ => hK _ _ (h v' w' h2)
    rw [if_pos hw] at this
    exact this
theorem Ss.src {w : World} {A : Option Addr} {n c : Nat} {q : List ByteArray} (h : Ss w (.slice A n c) q) : q.length = n ∧ n ≤ c ∧ (A = none → c = 0) ∧ ∀ ad, A = some ad → ∀ j u, (q.flatMap stC)[j]? = some u → w.cell? (ad.add j) = some u := by
  obtain ⟨A', cap, hv, h2, h3, hc⟩ := h
  simp only [Value.slice.injEq] at hv
  obtain ⟨rfl, rfl, rfl⟩ := hv
  refine ⟨rfl, h2, h3, ?_⟩
  intro ad ha j u hu
  rw [stC_map] at hu
  have hj : j < q.length := by
    have := (List.getElem?_eq_some_iff.1 hu).1
    rw [List.length_map] at this
    exact this
  obtain ⟨b, o, hA, g1⟩ := hc j hj
  rw [hA] at ha
  cases ha
  rw [List.getElem?_map, List.getElem?_eq_getElem hj] at hu
  simp only [Option.map_some, Option.some.injEq] at hu
  rw [Addr.add_lit, g1, ← hu]
  simp [List.getD, hj]

theorem alloc3 (w : World) (a b c : Obj) : (((w.alloc a).alloc b).alloc c).heap[w.heap.size + 1]? = some b ∧ (((w.alloc a).alloc b).alloc c).heap[w.heap.size + 1 + 1]? = some c ∧ Below w.heap.size w (((w.alloc a).alloc b).alloc c) := by
  refine ⟨blk_alloc (blk_new1 _ _ _) _, ?_, (((Below.refl _ _).alloc (Nat.le_refl _) _).alloc (by simp) _).alloc (by simp; omega) _⟩
  have := blk_new1 (w.alloc a) b c
  simpa using this
theorem ss_one {w : World} {b : Nat} {s : ByteArray} (h : w.heap[b]? = some (.cells #[.string s] 9 (0, 0))) : Ss w (.slice (some ⟨b, 0, none⟩) 1 1) [s] := by
  refine ⟨some ⟨b, 0, none⟩, 1, rfl, by simp, (fun e => by cases e), fun i hi => ⟨b, 0, rfl, ?_⟩⟩
  obtain rfl : i = 0 := by simpa using hi
  rw [blk_cell h]
  rfl

set_option maxRecDepth 100000 in
set_option maxHeartbeats 6400000 in
theorem parts_any (A1 A2 A3 : Option Addr) (n1 c1 n2 c2 n3 c3 : Nat) (f1 f2 f3 : Nat → Int) (A4 A5 A6 : Option Addr) (n4 c4 n5 c5 n6 c6 : Nat) (f4 f5 f6 : Nat → Int) (more : Int) (w : World)
    (h1 : Ia w A1 n1 f1) (h2 : Ia w A2 n2 f2) (h3 : Ia w A3 n3 f3) (h4 : Ia w A4 n4 f4) (h5 : Ia w A5 n5 f5) (h6 : Ia w A6 n6 f6) :
    Calls Try.prog 7 #[.agg #[.slice A1 n1 c1, .slice A2 n2 c2, .slice A3 n3 c3], .agg #[.slice A4 n4 c4, .slice A5 n5 c5, .slice A6 n6 c6], .int .i64 more] w fun e w' => e = .returned (.bool true) ∧ Below w.heap.size w w' := by
  have H1 := Lib.hid h1
  have H2 := Lib.hid h2
  have H3 := Lib.hid h3
  have H4 := Lib.hid h4
  have H5 := Lib.hid h5
  have H6 := Lib.hid h6
  clear h1 h2 h3 h4 h5 h6
  go_enter Try.func7, Try.ntmps7
  go_upto_region 1 with fail
  have HB := Lib.hid (((Below.refl w.heap.size w).alloc (Nat.le_refl _) (.cells #[.slice A1 n1 c1, .slice A2 n2 c2, .slice A3 n3 c3] 44 (0, 0))).alloc (by simp) (.cells #[.slice A4 n4 c4, .slice A5 n5 c5, .slice A6 n6 c6] 44 (0, 0)))
  have X1 := Lib.hid (blk_alloc (blk_new w (.cells #[.slice A1 n1 c1, .slice A2 n2 c2, .slice A3 n3 c3] 44 (0, 0))) (.cells #[.slice A4 n4 c4, .slice A5 n5 c5, .slice A6 n6 c6] 44 (0, 0)))
  have X2 := Lib.hid (blk_new1 w (.cells #[.slice A1 n1 c1, .slice A2 n2 c2, .slice A3 n3 c3] 44 (0, 0)) (.cells #[.slice A4 n4 c4, .slice A5 n5 c5, .slice A6 n6 c6] 44 (0, 0)))
  generalize (w.alloc (.cells #[.slice A1 n1 c1, .slice A2 n2 c2, .slice A3 n3 c3] 44 (0, 0))).alloc (.cells #[.slice A4 n4 c4, .slice A5 n5 c5, .slice A6 n6 c6] 44 (0, 0)) = w5 at *
  have KS : Hid (∀ w' : World, Below w5.heap.size w5 w' → (w'.cell? ⟨w.heap.size, 0, none⟩ = some (.slice A1 n1 c1) ∧ w'.cell? ⟨w.heap.size, 1, none⟩ = some (.slice A2 n2 c2) ∧ w'.cell? ⟨w.heap.size, 2, none⟩ = some (.slice A3 n3 c3)) ∧ w'.cell? ⟨w.heap.size + 1, 0, none⟩ = some (.slice A4 n4 c4) ∧ w'.cell? ⟨w.heap.size + 1, 1, none⟩ = some (.slice A5 n5 c5) ∧ w'.cell? ⟨w.heap.size + 1, 2, none⟩ = some (.slice A6 n6 c6)) :=
    fun w' hk => ⟨blk3 (blk_call X1.out hk), blk3 (blk_call X2.out hk)⟩
  go_cut [7, 8] from 17 (fun v7 v8 wz => ∃ N M V1 d1 e1 V2 d2 e2 V3 d3 e3 V4 d4 e4 p q p' q',
    v7 = .pointer (some ⟨N, 0, none⟩) ∧ v8 = .pointer (some ⟨M, 0, none⟩) ∧ wz.heap[N]? = some (.cells #[.slice V1 d1 e1, .slice V2 d2 e2] 25 (0, 0)) ∧ wz.heap[M]? = some (.cells #[.slice V3 d3 e3, .slice V4 d4 e4] 25 (0, 0)) ∧
    Ss wz (.slice V1 d1 e1) p ∧ Ps wz (.slice V2 d2 e2) q ∧ KeepOK p q ∧ Ss wz (.slice V3 d3 e3) p' ∧ Ps wz (.slice V4 d4 e4) q' ∧ KeepOK p' q' ∧ Below w5.heap.size w5 wz)
  case first =>
    have hSd : (fun w' : World => (w'.cell? ⟨w.heap.size, 0, none⟩ = some (.slice A1 n1 c1) ∧ w'.cell? ⟨w.heap.size, 1, none⟩ = some (.slice A2 n2 c2) ∧ w'.cell? ⟨w.heap.size, 2, none⟩ = some (.slice A3 n3 c3)) ∧ w'.cell? ⟨w.heap.size + 1, 0, none⟩ = some (.slice A4 n4 c4) ∧ w'.cell? ⟨w.heap.size + 1, 1, none⟩ = some (.slice A5 n5 c5) ∧ w'.cell? ⟨w.heap.size + 1, 2, none⟩ = some (.slice A6 n6 c6)) w5.drew := KS.out _ ((Below.refl _ _).drew)
    refine wp_region_sink (S := fun w' : World => (w'.cell? ⟨w.heap.size, 0, none⟩ = some (.slice A1 n1 c1) ∧ w'.cell? ⟨w.heap.size, 1, none⟩ = some (.slice A2 n2 c2) ∧ w'.cell? ⟨w.heap.size, 2, none⟩ = some (.slice A3 n3 c3)) ∧ w'.cell? ⟨w.heap.size + 1, 0, none⟩ = some (.slice A4 n4 c4) ∧ w'.cell? ⟨w.heap.size + 1, 1, none⟩ = some (.slice A5 n5 c5) ∧ w'.cell? ⟨w.heap.size + 1, 2, none⟩ = some (.slice A6 n6 c6)) (n := 1000) (by kernel_rfl) ?_
    change wpSink _ _ _ _ _ 1000 8 _ _ _
    refine sink_take0 (i := 0) (v := ?_) rfl (by kernel_rfl) (by decide) (by kernel_rfl) (by kernel_rfl) (fun _ _ _ h => h) (Or.inl ⟨by rfl, ?_⟩) hSd ?_
    rotate_left
    · intro wz hSw
      (try dsimp only at hSw)
      obtain ⟨⟨s0, s1, s2⟩, s3, s4, s5⟩ := hSw
      go_simp
      (try with_reducible rfl)
    try simp only [Act.put]
    refine sink_take0 (i := 2) (v := ?_) rfl (by kernel_rfl) (by decide) (by kernel_rfl) (by kernel_rfl) (fun _ _ _ h => h) (Or.inl ⟨by rfl, ?_⟩) hSd ?_
    rotate_left
    · intro wz hSw
      (try dsimp only at hSw)
      obtain ⟨⟨s0, s1, s2⟩, s3, s4, s5⟩ := hSw
      go_simp
      (try with_reducible rfl)
    try simp only [Act.put]
    refine sink_inv (I := fun ls a W => ∃ (b1 b3 b4 b5 b6 b7 : Bool) (t18 t20 t7 t8 : Value), ls = #[true, b1, true, b3, b4, b5, b6, b7] ∧ a = (⟨#[Value.agg #[Value.slice A1 n1 c1, Value.slice A2 n2 c2, Value.slice A3 n3 c3], Value.agg #[Value.slice A4 n4 c4, Value.slice A5 n5 c5, Value.slice A6 n6 c6], Value.int IntKind.i64 more, Value.pointer (some ⟨w.heap.size, 0, none⟩), Value.pointer (some ⟨w.heap.size + 1, 0, none⟩), undef, Value.bool false, t7, t8, undef, undef, undef, undef, undef, undef, undef, undef, Value.agg #[Value.slice A1 n1 c1, Value.slice A2 n2 c2, Value.slice A3 n3 c3], t18, Value.agg #[Value.slice A4 n4 c4, Value.slice A5 n5 c5, Value.slice A6 n6 c6], t20, undef, undef, undef, undef, undef, undef, undef, undef, undef, undef, undef, undef, undef, undef, undef, undef, undef, undef, undef, undef, undef, undef, undef, undef, undef, undef, undef, undef, undef, undef, undef, undef, undef, undef, undef, undef, undef, undef, undef, undef, undef, undef, undef, undef, undef, undef, undef, undef, undef, undef, undef, undef, undef, undef, undef, undef, undef, undef, undef, undef, undef, undef, undef, undef, undef, undef, undef, undef, undef, undef, undef, undef, undef, undef, undef, undef, undef, undef, undef, undef, undef, undef, undef, undef, undef], []⟩ : Act) ∧ PI w5 b1 b3 b4 b5 b6 b7 t18 t20 t7 t8 W) (by kernel_rfl) ?_ ?_ ?_ 6 _ _ _ (by decide) ?_
    · rintro ls a W ⟨b1, b3, b4, b5, b6, b7, t18, t20, t7, t8, rfl, rfl, hg⟩
      rfl
    · rintro i hi ls a W ⟨b1, b3, b4, b5, b6, b7, t18, t20, t7, t8, rfl, rfl, hg⟩ hr
      have hi8 : i < 8 := hi
      have HG := Lib.hid hg
      have HR := Lib.hid hr
      clear hg hr hi
      obtain rfl | rfl | rfl | rfl | rfl | rfl | rfl | rfl : i = 0 ∨ i = 2 ∨ i = 1 ∨ i = 3 ∨ i = 4 ∨ i = 5 ∨ i = 6 ∨ i = 7 := by omega
      · cases (show true = false from ready_un HR.out)
      · cases (show true = false from ready_un HR.out)
      · obtain rfl : b1 = false := ready_un HR.out
        refine wpOp_step rfl (fun K' hK => ?_)
        have HK := Lib.hid hK
        clear hK
        rw [if_pos (by rfl)]
        go_simp
        have HZ := Lib.hid (HB.out.trans (HG.out.bel.mono HB.out.size))
        refine (url21 _ _ _ _ _ _ _ _ _ f1 f2 f3 _ (H1.out.call HZ.out) (H2.out.call HZ.out) (H3.out.call HZ.out)).mono ?_
        rintro e w' ⟨v1, v2, p, q, rfl, g1, g2, g3, g4⟩
        have hn := pi1 HG.out (keepV_of g1 g2 g3) g4
        exact HK.out _ _ ⟨Or.inr (KS.out _ hn.bel), _, _, _, _, _, _, _, _, _, _, rfl, rfl, hn⟩
      · obtain rfl : b3 = false := ready_un HR.out
        refine wpOp_step rfl (fun K' hK => ?_)
        have HK := Lib.hid hK
        clear hK
        rw [if_pos (by rfl)]
        go_simp
        have HZ := Lib.hid (HB.out.trans (HG.out.bel.mono HB.out.size))
        refine (url21 _ _ _ _ _ _ _ _ _ f4 f5 f6 _ (H4.out.call HZ.out) (H5.out.call HZ.out) (H6.out.call HZ.out)).mono ?_
        rintro e w' ⟨v1, v2, p, q, rfl, g1, g2, g3, g4⟩
        have hn := pi3 HG.out (keepV_of g1 g2 g3) g4
        exact HK.out _ _ ⟨Or.inr (KS.out _ hn.bel), _, _, _, _, _, _, _, _, _, _, rfl, rfl, hn⟩
      · obtain rfl : b4 = false := ready_un HR.out
        refine wpOp_step rfl (fun K' hK => ?_)
        have HK := Lib.hid hK
        clear hK
        rw [if_pos (by rfl)]
        go_simp
        have hn := pi4 HG.out
        exact HK.out _ _ ⟨Or.inr (KS.out _ hn.bel), _, _, _, _, _, _, _, _, _, _, rfl, rfl, hn⟩
      · obtain rfl : b5 = false := ready_un HR.out
        refine wpOp_step rfl (fun K' hK => ?_)
        have HK := Lib.hid hK
        clear hK
        rw [if_pos (by rfl)]
        go_simp
        have hn := pi5 HG.out
        exact HK.out _ _ ⟨Or.inr (KS.out _ hn.bel), _, _, _, _, _, _, _, _, _, _, rfl, rfl, hn⟩
      · obtain rfl : b6 = false := ready_un HR.out
        obtain rfl : b1 = true := ready_dep (j := 1) (by kernel_rfl) HR.out
        obtain rfl : b4 = true := ready_dep (j := 4) (by kernel_rfl) HR.out
        obtain ⟨N, hN, rfl, hS⟩ := HG.out.f4 rfl
        obtain ⟨V1, d1, e1, V2, d2, e2, p, q, rfl, _, _, _⟩ := HG.out.f1 rfl
        have HN := Lib.hid hN
        have HNB := Lib.hid (hS.1 rfl)
        clear hN hS
        obtain ⟨r0, r1, r2, r3⟩ := blk2 HNB.out
        refine wpOp_step rfl (fun K' hK => ?_)
        have HK := Lib.hid hK
        clear hK
        rw [if_pos (by rfl)]
        go_simp
        have hn := pi6 HG.out HN.out HNB.out
        exact HK.out _ _ ⟨Or.inr (KS.out _ hn.bel), _, _, _, _, _, _, _, _, _, _, rfl, rfl, hn⟩
      · obtain rfl : b7 = false := ready_un HR.out
        obtain rfl : b3 = true := ready_dep (j := 3) (by kernel_rfl) HR.out
        obtain rfl : b5 = true := ready_dep (j := 5) (by kernel_rfl) HR.out
        obtain ⟨N, hN, rfl, hS⟩ := HG.out.f5 rfl
        obtain ⟨V1, d1, e1, V2, d2, e2, p, q, rfl, _, _, _⟩ := HG.out.f3 rfl
        have HN := Lib.hid hN
        have HNB := Lib.hid (hS.1 rfl)
        clear hN hS
        obtain ⟨r0, r1, r2, r3⟩ := blk2 HNB.out
        refine wpOp_step rfl (fun K' hK => ?_)
        have HK := Lib.hid hK
        clear hK
        rw [if_pos (by rfl)]
        go_simp
        have hn := pi7 HG.out HN.out HNB.out
        exact HK.out _ _ ⟨Or.inr (KS.out _ hn.bel), _, _, _, _, _, _, _, _, _, _, rfl, rfl, hn⟩
    · rintro ls a W ⟨b1, b3, b4, b5, b6, b7, t18, t20, t7, t8, rfl, rfl, hg⟩ hall
      obtain rfl : b1 = true := hall 1 (by decide)
      obtain rfl : b3 = true := hall 3 (by decide)
      obtain rfl : b4 = true := hall 4 (by decide)
      obtain rfl : b5 = true := hall 5 (by decide)
      obtain rfl : b6 = true := hall 6 (by decide)
      obtain rfl : b7 = true := hall 7 (by decide)
      have hend := pi_end hg
      clear hg hall
      go_wp2_with fail
      go_meet
      exact hend
    · exact ⟨false, false, false, false, false, false, _, _, _, _, rfl, rfl, pi_start _ _ _ _ _ ((Below.refl _ _).drew)⟩
  case rest =>
    obtain ⟨N, M, V1, d1, e1, V2, d2, e2, V3, d3, e3, V4, d4, e4, p, q, p', q', rfl, rfl, hN, hM, g1, g2, g3, g4, g5, g6, hz⟩ := hcut
    have T5 := Lib.hid (HB.out.trans (hz.mono HB.out.size))
    obtain ⟨x0, _, _, _⟩ := blk2 hN
    obtain ⟨_, y1, _, _⟩ := blk2 hM
    have HN := Lib.hid hN
    have HM := Lib.hid hM
    have G1 := Lib.hid g1
    have G5 := Lib.hid g5
    have hrb := right_both (keep_right g3) (keep_right g6)
    have hpl : p.length ≤ 5 := g3.1
    have hc := Lib.hid (prn_both hrb)
    have hr0 := Lib.hid (right_nilQ hrb).1
    have hb1 := prn_size (right_nilQ hrb).2
    have ha1 := prn_size' p []
    have hd1 := g1.src.1
    subst hd1
    clear hN hM g1 g2 g3 g4 g5 g6 hz hrb KS X1 X2 H1 H2 H3 H4 H5 H6 HB
    go_wp2_with fail
    refine (print12 _ _ _ [] _ G1.out (ps_nil _)).mono ?_
    rintro e w8 ⟨rfl, h8⟩
    have B8 := Lib.hid h8
    clear h8 x0 y1
    obtain ⟨_, y1, _, _⟩ := blk2 (blk_call HM.out B8.out)
    go_wp2_with fail
    refine (print12 _ _ [] _ _ (ss_nil _) (G5.out.call B8.out)).mono ?_
    rintro e w9 ⟨rfl, h9⟩
    have B9 := Lib.hid (B8.out.trans (h9.mono B8.out.size))
    clear h9 y1
    obtain ⟨x0, _, _, _⟩ := blk2 (blk_call HN.out B9.out)
    obtain ⟨_, y1, _, _⟩ := blk2 (blk_call HM.out B9.out)
    go_wp2_with fail
    refine (print12 _ _ _ _ _ (G1.out.call B9.out) (G5.out.call B9.out)).mono ?_
    rintro e w10 ⟨rfl, h10⟩
    have B10 := Lib.hid (B9.out.trans (h10.mono B9.out.size))
    clear h10 x0 y1
    obtain ⟨x0, _, _, _⟩ := blk2 (blk_call HN.out B10.out)
    rw [hc.out]
    have HD : Hid (p ≠ [] → prnS (p ++ [⟨#[97, 47, 98]⟩]) [] = prnS p [] ++ ⟨#[47, 97, 37, 50, 70, 98]⟩) := fun h => prn_more hr0.out h hpl
    clear hc hr0
    generalize prnS [] q' = tb at *
    generalize prnS p [] = ta at *
    have z1 : ¬ (tb.size : Int) < 1 := by omega
    have z2 : (1 : Int) ≤ (tb.size : Int) := by omega
    have z3 : (tb.extract 1 tb.size).size = tb.size - 1 := tail_size tb 1
    have z4 : ¬ 9223372036854775807 < ta.size + (tb.size - 1) := by omega
    go_upto_if 49 with fail
    go_cut [12] from 49 (fun _ wz2 => Below w10.heap.size w10 wz2)
    case first =>
      by_cases hq : p = []
      · have hq0 : p.length = 0 := by rw [hq]; rfl
        have d9 : decide ((0 : Int) < (p.length : Int)) = false := decide_eq_false (by omega)
        have d8 : decide (0 < p.length) = false := decide_eq_false (by omega)
        clear hq hq0
        (try rw [d9])
        (try rw [d8])
        go_wp2_with fail
        go_meet
        exact Below.refl _ _
      · have hq0 : 0 < p.length := List.length_pos_iff.2 hq
        have d9 : decide ((0 : Int) < (p.length : Int)) = true := decide_eq_true (by omega)
        have hd := Lib.hid (HD.out hq)
        obtain ⟨k1, k2, k3, k4⟩ := (G1.out.call (B10.out.trans ((Below.refl w10.heap.size w10).alloc (Nat.le_refl _) (.cells #[] 9 (0, 0)) |>.mono B10.out.size))).src
        have K2 := Lib.hid k2
        have K3 := Lib.hid k3
        have K4 := Lib.hid k4
        have E0 := Lib.hid (empS w10.heap.size w10 w10 (Below.refl _ _) (Nat.le_refl _))
        have x00 : (w10.alloc (.cells #[] 9 (0, 0))).cell? ⟨N, 0, none⟩ = some (.slice V1 p.length e1) := by
          rw [World.cell?_alloc_lt _ _ _ (World.block_lt_of_cell? _ _ x0)]; exact x0
        have d8 : decide (0 < p.length) = true := decide_eq_true (by omega)
        clear hq k1 k2 k3 k4 hq0
        (try rw [d9])
        (try rw [d8])
        go_wp2_with (refine wpList_fewS _ rfl (.tmp 50) (.tmp 52) rfl w10.heap.size w10 _ rfl E0.out V1 p.length e1 p rfl rfl (by omega) K2.out K3.out K4.out ?_)
        intro v11 w11 h11
        have H11 := Lib.hid h11
        clear h11 E0 K2 K3 K4 x00
        go_wp2_with (refine wpList_appS _ rfl (.tmp 53) (.tmp 54) rfl w10.heap.size w10 _ p rfl (H11.out.alloc _) (by omega) w11.heap.size 1 1 [⟨#[97, 47, 98]⟩] rfl rfl (by omega) (blk_new _ _) ?_)
        intro v12 w12 h12 _ _
        obtain ⟨A12, m12, k12, hv12⟩ := h12.ss.shape
        subst hv12
        have H12 := Lib.hid h12
        clear h12 H11
        have z5 : ¬ 9223372036854775807 < ta.size + 6 := by omega
        go_wp2_with fail
        refine (print12 _ _ _ [] _ H12.out.ss (ps_nil _)).mono ?_
        rintro e w13 ⟨rfl, h13⟩
        rw [hd.out]
        have B13 := Lib.hid (H12.out.2.1.trans (h13.mono H12.out.2.2))
        clear h13 hd
        go_wp2_with fail
        go_meet
        exact B13.out
    case rest =>
      have BZ := Lib.hid (B10.out.trans (hcut.mono B10.out.size))
      clear hcut x0 z1 z2 z3 z4 HD
      obtain ⟨r, hr, hr6⟩ : ∃ r : Nat, wi more 5 = (r : Int) ∧ r ≤ 5 := by
        have := wi_in more 5 (by omega)
        exact ⟨(wi more 5).toNat, by omega, by omega⟩
      have HR := Lib.hid hr
      clear hr
      go_wp2_with fail
      refine (within_nat more 5 r _ (by omega) HR.out).mono ?_
      rintro e w' ⟨rfl, rfl⟩
      obtain ⟨n, hn⟩ : ∃ n : Nat, n = 9 + r := ⟨_, rfl⟩
      have h9 : Hid ((9 + (r : Int)) = (n : Int)) := by show (9 + (r : Int)) = (n : Int); omega
      have hn9 : 9 ≤ n ∧ n ≤ 14 := by omega
      clear hn
      obtain ⟨i0, hi, hz0, hz1, hz2⟩ := info_parts info9
      have hby : i0.bytes * n ≤ 281474976710656 := by rw [hz2]; omega
      go_wp2_with (at_make; refine wpList_make_row _ rfl _ _ 22 rfl 9 i0 (.string ⟨#[]⟩) Try.underlying22 hi hz0 hz1 rfl .i64 .i64 n (congrArg (Value.int .i64) h9.out) (congrArg (Value.int .i64) h9.out) hby (by omega) ?_)
      clear hi hz0 hz1 hz2 hby i0
      have R0 := Lib.hid ((RowA.new w' n).call ((Below.refl _ _).alloc (Nat.le_refl _) (.cells #[.slice (some ⟨w'.heap.size, 0, none⟩) n n, .slice none 0 0] 25 (0, 0))))
      have S0 := Lib.hid (blk_new1 w' (.cells (madeCells #[.string ⟨#[]⟩] n) 9 (0, 0)) (.cells #[.slice (some ⟨w'.heap.size, 0, none⟩) n n, .slice none 0 0] 25 (0, 0)))
      have B0 := Lib.hid (((Below.refl w'.heap.size w').alloc (Nat.le_refl _) (.cells (madeCells #[.string ⟨#[]⟩] n) 9 (0, 0))).alloc (by simp) (.cells #[.slice (some ⟨w'.heap.size, 0, none⟩) n n, .slice none 0 0] 25 (0, 0)))
      generalize (w'.alloc (.cells (madeCells #[.string ⟨#[]⟩] n) 9 (0, 0))).alloc (.cells #[.slice (some ⟨w'.heap.size, 0, none⟩) n n, .slice none 0 0] 25 (0, 0)) = w14 at *
      go_loopw [70] (fun i wr => ∃ k : Nat, k ≤ n ∧ i = .int .i64 k ∧ RowA w'.heap.size n k wr ∧ wr.heap[w'.heap.size + 1]? = some (.cells #[.slice (some ⟨w'.heap.size, 0, none⟩) n n, .slice none 0 0] 25 (0, 0)) ∧ Below w'.heap.size w' wr) (fun i _ => n - (intOf i).toNat)
      case atStart => exact ⟨0, Nat.zero_le _, rfl, R0.out, S0.out, B0.out⟩
      case round =>
        obtain ⟨k, hk, rfl, q1, q2, q3⟩ := hrel
        obtain ⟨t0, t1, _, _⟩ := blk2 q2
        have Q1 := Lib.hid q1
        have Q2 := Lib.hid q2
        have Q3 := Lib.hid q3
        clear q1 q2 q3
        by_cases hlt : k < n
        · obtain ⟨⟨x, c1⟩, c2⟩ := Q1.out.at hlt
          have c0 : (k : Int) < (n : Int) := by omega
          go_wp2_with fail
          go_roundw
          case rel => exact ⟨k + 1, by omega, by go_num, Q1.out.set hlt, (Below.heap_setCell _ _ _ _ (by show w'.heap.size + 1 ≠ w'.heap.size; omega)).trans Q2.out, Q3.out.setCell (Nat.le_refl _) _⟩
          case measure => simp [intOf]; omega
        · have hkn : n = k := by omega
          subst hkn
          have c0 : ¬ (n : Int) < (n : Int) := by omega
          have hcv := wide_text wr
          obtain ⟨i0, hi, hz0, hz1, hz2⟩ := info_parts info5
          have hby : i0.bytes * 65 ≤ 281474976710656 := by rw [hz2]; omega
          go_upto_region 18 with (at_make; refine wpList_make_row _ rfl _ _ 47 rfl 5 i0 (.int .u8 0) Try.underlying47 hi hz0 hz1 rfl .i64 .i64 65 rfl rfl hby (by omega) ?_)
          clear hi hz0 hz1 hz2 hby i0 hcv c0
          obtain ⟨j1, j2, j3⟩ := alloc3 wr (.cells (madeCells #[.int .u8 0] 65) 5 (0, 0)) (.cells #[.string wideS] 9 (0, 0)) (.cells #[.slice (some ⟨wr.heap.size + 1, 0, none⟩) 1 1, .slice none 0 0] 25 (0, 0))
          generalize ((wr.alloc (.cells (madeCells #[.int .u8 0] 65) 5 (0, 0))).alloc (.cells #[.string wideS] 9 (0, 0))).alloc (.cells #[.slice (some ⟨wr.heap.size + 1, 0, none⟩) 1 1, .slice none 0 0] 25 (0, 0)) = w15 at *
          have J1 := Lib.hid (ss_one j1)
          have J2 := Lib.hid j2
          have J3 := Lib.hid j3
          have B15 := Lib.hid (BZ.out.trans ((Q3.out.trans (j3.mono Q3.out.size)).mono BZ.out.size))
          have R15 := Lib.hid (Q1.out.call j3)
          have T15 := Lib.hid (blk_call Q2.out j3)
          clear j1 j2 j3 t0 t1
          obtain ⟨t0, t1, _, _⟩ := blk2 T15.out
          have s8 : (8 : Int) ≤ (n : Int) := by omega
          go_upto_region 19 with fail
          have F16 := Lib.hid ((Below.refl w15.heap.size w15).alloc (Nat.le_refl _) (.cells #[.slice (some ⟨w'.heap.size, 0, none⟩) 8 n, .slice none 0 0] 25 (0, 0)))
          have V16 := Lib.hid (blk_new w15 (.cells #[.slice (some ⟨w'.heap.size, 0, none⟩) 8 n, .slice none 0 0] 25 (0, 0)))
          generalize w15.alloc (.cells #[.slice (some ⟨w'.heap.size, 0, none⟩) 8 n, .slice none 0 0] 25 (0, 0)) = w16 at *
          have B16 := Lib.hid (T5.out.trans ((B15.out.trans (F16.out.mono B15.out.size)).mono T5.out.size))
          have T16 := Lib.hid (blk_call T15.out F16.out)
          have U16 := Lib.hid (blk_call J2.out F16.out)
          have L16 := Lib.hid ((R15.out.call F16.out).ss (m := n) (Nat.le_refl _) (Nat.le_refl _))
          have S16 := Lib.hid ((R15.out.call F16.out).ss (m := 8) (by omega) (by omega))
          have W16 := Lib.hid (J1.out.call F16.out)
          clear J1 J2 J3 R15 T15 Q1 Q2 Q3 t0 t1 R0 S0 B0
          obtain ⟨t0, t1, _, _⟩ := blk2 T16.out
          go_wp2_with fail
          refine (right16 _ _ _ [] _ L16.out (ps_nil _)).mono ?_
          rintro e w17 ⟨rfl, h17⟩
          rw [right_long n hn9.1]
          have Z17 := Lib.hid h17
          clear h17 t0 t1
          obtain ⟨t0, t1, _, _⟩ := blk2 (blk_call T16.out Z17.out)
          go_wp2_with fail
          refine (print12 _ _ _ [] _ (L16.out.call Z17.out) (ps_nil _)).mono ?_
          rintro e w18 ⟨rfl, h18⟩
          rw [prn_long n hn9.1]
          have Z18 := Lib.hid (Z17.out.trans (h18.mono Z17.out.size))
          clear h18 t0 t1
          obtain ⟨t0, t1, _, _⟩ := blk2 (blk_call U16.out Z18.out)
          go_wp2_with fail
          refine (right16 _ _ _ [] _ (W16.out.call Z18.out) (ps_nil _)).mono ?_
          rintro e w19 ⟨rfl, h19⟩
          rw [right_wide]
          have Z19 := Lib.hid (Z18.out.trans (h19.mono Z18.out.size))
          clear h19 t0 t1
          obtain ⟨t0, t1, _, _⟩ := blk2 (blk_call V16.out Z19.out)
          go_wp2_with fail
          refine (right16 _ _ _ [] _ (S16.out.call Z19.out) (ps_nil _)).mono ?_
          rintro e w20 ⟨rfl, h20⟩
          rw [right_full]
          have Z20 := Lib.hid (Z19.out.trans (h20.mono Z19.out.size))
          clear h20 t0 t1
          go_wp2_with fail
          refine (urlRuns_any _).mono ?_
          rintro e w21 ⟨rfl, h21⟩
          have Z21 := Lib.hid (Z20.out.trans (h21.mono Z20.out.size))
          clear h21
          go_wp2
          go_ret
          exact ⟨rfl, B16.out.trans (Z21.out.mono B16.out.size)⟩
end Go.Proofs.Ytcppccpglcolnaa
