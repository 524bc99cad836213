/-
  ShapeTells: a tree of numbers is right, its nodes, depth and outlets as it was made; a copy is the same, and by itself.
-/
import Derived.Test.YtolklphenllhpaaTwo
import Derived.Test.YtolklphenllhpaaCpy
import Derived.Test.YtolklphenllhpaaSam
import Derived.Test.YtolklphenllhpaaVee
namespace Go.Proofs.Ytolklphenllhpaa
open Go.RowKit Go.PlainAid
set_option maxRecDepth 100000

theorem kid_key {t t0 : Tr} {ts : List Tr} {z o : Tx} (h : WoT t) (hk : t.kids = t0 :: ts) (ho : 1 < o.size) : trB (.mk t.tag t.key t.text t.attrs (.mk z o t0.text t0.attrs t0.kids :: ts)) t = false := by
  refine trB_false (fun e => ?_)
  have h1 := ((all_iff _ _).1 h.1).2 t0 (by rw [hk]; simp)
  have h2 := ((all_iff _ _).1 h1).1.1
  rw [← e] at hk
  simp only [Tr.kids, List.cons.injEq, and_true] at hk
  have h3 : t0.key = o := by rw [← hk]; rfl
  rw [← h3] at ho
  rcases h2 with ⟨_, a, _⟩ | ⟨_, _, _, a, _⟩ <;> simp only at a <;> omega

set_option maxHeartbeats 12800000 in
theorem tells4 (va vb : Value) (w : World) (hk0 : Wo w va) (hk1 : Wo w vb) : Calls Try.prog 4 #[va, vb] w fun e w' => e = .returned (.bool true) ∧ Below w.heap.size w w' := by
  obtain ⟨A0, n0, c0, A1, n1, c1, A2, n2, c2, A3, n3, c3, f0, f1, f2, f3, rfl, hi0, hi1, hi2, hi3⟩ := hk0
  obtain ⟨A4, n4, c4, A5, n5, c5, A6, n6, c6, A7, n7, c7, f4, f5, f6, f7, rfl, hi4, hi5, hi6, hi7⟩ := hk1
  have I0 := Lib.hid hi0
  have I1 := Lib.hid hi1
  have I2 := Lib.hid hi2
  have I3 := Lib.hid hi3
  have I4 := Lib.hid hi4
  have I5 := Lib.hid hi5
  have I6 := Lib.hid hi6
  have I7 := Lib.hid hi7
  clear hi0 hi1 hi2 hi3 hi4 hi5 hi6 hi7
  go_enter Try.func4, Try.ntmps4
  go_upto_region 1 with fail
  have HB := Lib.hid (((Below.refl w.heap.size w).alloc (Nat.le_refl _) (.cells #[.slice A0 n0 c0, .slice A1 n1 c1, .slice A2 n2 c2, .slice A3 n3 c3] 34 (0, 0))).alloc (by simp) (.cells #[.slice A4 n4 c4, .slice A5 n5 c5, .slice A6 n6 c6, .slice A7 n7 c7] 34 (0, 0)))
  have X1 := Lib.hid (blk_alloc (blk_new w (.cells #[.slice A0 n0 c0, .slice A1 n1 c1, .slice A2 n2 c2, .slice A3 n3 c3] 34 (0, 0))) (.cells #[.slice A4 n4 c4, .slice A5 n5 c5, .slice A6 n6 c6, .slice A7 n7 c7] 34 (0, 0)))
  have X2 := Lib.hid (blk_new1 w (.cells #[.slice A0 n0 c0, .slice A1 n1 c1, .slice A2 n2 c2, .slice A3 n3 c3] 34 (0, 0)) (.cells #[.slice A4 n4 c4, .slice A5 n5 c5, .slice A6 n6 c6, .slice A7 n7 c7] 34 (0, 0)))
  generalize (w.alloc (.cells #[.slice A0 n0 c0, .slice A1 n1 c1, .slice A2 n2 c2, .slice A3 n3 c3] 34 (0, 0))).alloc (.cells #[.slice A4 n4 c4, .slice A5 n5 c5, .slice A6 n6 c6, .slice A7 n7 c7] 34 (0, 0)) = w5 at *
  have KS : Hid (∀ w' : World, Below w5.heap.size w5 w' → (w'.cell? ⟨w.heap.size, 0, none⟩ = some (.slice A0 n0 c0) ∧ w'.cell? ⟨w.heap.size, 1, none⟩ = some (.slice A1 n1 c1) ∧ w'.cell? ⟨w.heap.size, 2, none⟩ = some (.slice A2 n2 c2) ∧ w'.cell? ⟨w.heap.size, 3, none⟩ = some (.slice A3 n3 c3)) ∧ w'.cell? ⟨w.heap.size + 1, 0, none⟩ = some (.slice A4 n4 c4) ∧ w'.cell? ⟨w.heap.size + 1, 1, none⟩ = some (.slice A5 n5 c5) ∧ w'.cell? ⟨w.heap.size + 1, 2, none⟩ = some (.slice A6 n6 c6) ∧ w'.cell? ⟨w.heap.size + 1, 3, none⟩ = some (.slice A7 n7 c7)) := Lib.hid (fun w' hk => ⟨cells4_at (blk_call X1.out hk), cells4_at (blk_call X2.out hk)⟩)
  go_cut [5, 6] from 11 (fun v7 v8 wz => ∃ N M t u, v7 = .pointer (some ⟨N, 0, none⟩) ∧ v8 = .pointer (some ⟨M, 0, none⟩) ∧ Two w5.heap.size N M t u wz ∧ Below w5.heap.size w5 wz)
  case first =>
    have hSd : (fun w' : World => (w'.cell? ⟨w.heap.size, 0, none⟩ = some (.slice A0 n0 c0) ∧ w'.cell? ⟨w.heap.size, 1, none⟩ = some (.slice A1 n1 c1) ∧ w'.cell? ⟨w.heap.size, 2, none⟩ = some (.slice A2 n2 c2) ∧ w'.cell? ⟨w.heap.size, 3, none⟩ = some (.slice A3 n3 c3)) ∧ w'.cell? ⟨w.heap.size + 1, 0, none⟩ = some (.slice A4 n4 c4) ∧ w'.cell? ⟨w.heap.size + 1, 1, none⟩ = some (.slice A5 n5 c5) ∧ w'.cell? ⟨w.heap.size + 1, 2, none⟩ = some (.slice A6 n6 c6) ∧ w'.cell? ⟨w.heap.size + 1, 3, none⟩ = some (.slice A7 n7 c7)) w5.drew := KS.out _ ((Below.refl _ _).drew)
    refine wp_region_sink (S := fun w' : World => (w'.cell? ⟨w.heap.size, 0, none⟩ = some (.slice A0 n0 c0) ∧ w'.cell? ⟨w.heap.size, 1, none⟩ = some (.slice A1 n1 c1) ∧ w'.cell? ⟨w.heap.size, 2, none⟩ = some (.slice A2 n2 c2) ∧ w'.cell? ⟨w.heap.size, 3, none⟩ = some (.slice A3 n3 c3)) ∧ w'.cell? ⟨w.heap.size + 1, 0, none⟩ = some (.slice A4 n4 c4) ∧ w'.cell? ⟨w.heap.size + 1, 1, none⟩ = some (.slice A5 n5 c5) ∧ w'.cell? ⟨w.heap.size + 1, 2, none⟩ = some (.slice A6 n6 c6) ∧ w'.cell? ⟨w.heap.size + 1, 3, none⟩ = some (.slice A7 n7 c7)) (n := 1000) (by kernel_rfl) ?_
    change wpSink _ _ _ _ _ 1000 8 _ _ _
    refine sink_take0 (i := 0) (v := ?_) rfl (by kernel_rfl) (by decide) (by kernel_rfl) (by kernel_rfl) (fun _ _ _ h => h) (Or.inl ⟨by rfl, ?_⟩) hSd ?_
    rotate_left
    · intro wz hSw
      (try dsimp only at hSw)
      obtain ⟨⟨s0, s1, s2, s3⟩, s4, s5, s6, s7⟩ := hSw
      go_simp
      (try with_reducible rfl)
    try simp only [Act.put]
    refine sink_take0 (i := 2) (v := ?_) rfl (by kernel_rfl) (by decide) (by kernel_rfl) (by kernel_rfl) (fun _ _ _ h => h) (Or.inl ⟨by rfl, ?_⟩) hSd ?_
    rotate_left
    · intro wz hSw
      (try dsimp only at hSw)
      obtain ⟨⟨s0, s1, s2, s3⟩, s4, s5, s6, s7⟩ := hSw
      go_simp
      (try with_reducible rfl)
    try simp only [Act.put]
    refine sink_inv (I := fun ls a W => ∃ (b1 b3 b4 b5 b6 b7 : Bool) (t18 t20 t7 t8 : Value), ls = #[true, b1, true, b3, b4, b5, b6, b7] ∧ a = (⟨#[.agg #[.slice A0 n0 c0, .slice A1 n1 c1, .slice A2 n2 c2, .slice A3 n3 c3], .agg #[.slice A4 n4 c4, .slice A5 n5 c5, .slice A6 n6 c6, .slice A7 n7 c7], .pointer (some ⟨w.heap.size, 0, none⟩), .pointer (some ⟨w.heap.size + 1, 0, none⟩), .bool false, t7, t8, undef, undef, undef, undef, .agg #[.slice A0 n0 c0, .slice A1 n1 c1, .slice A2 n2 c2, .slice A3 n3 c3], t18, .agg #[.slice A4 n4 c4, .slice A5 n5 c5, .slice A6 n6 c6, .slice A7 n7 c7], t20, undef, undef, undef, undef, undef, undef, undef, undef, undef, undef, undef, undef, undef, undef, undef, undef, undef, undef, undef, undef, undef, undef, undef, undef, undef, undef, undef, undef, undef, undef, undef, undef, undef, undef, undef, undef, undef, undef, undef, undef, undef, undef, undef, undef, undef, undef, undef, undef, undef, undef, undef, undef, undef, undef, undef, undef, undef, undef, undef, undef, undef, undef, undef, undef, undef, undef, undef, undef, undef, undef, undef], []⟩ : Act) ∧ PI w5 b1 b3 b4 b5 b6 b7 t18 t20 t7 t8 W) (by kernel_rfl) ?_ ?_ ?_ 6 _ _ _ (by decide) ?_
    · rintro ls a W ⟨b1, b3, b4, b5, b6, b7, t18, t20, t7, t8, rfl, rfl, hg⟩
      rfl
    · rintro i hi ls a W ⟨b1, b3, b4, b5, b6, b7, t18, t20, t7, t8, rfl, rfl, hg⟩ hr
      have hi8 : i < 8 := hi
      have HG := Lib.hid hg
      have HR := Lib.hid hr
      clear hg hr hi
      obtain rfl | rfl | rfl | rfl | rfl | rfl | rfl | rfl : i = 0 ∨ i = 2 ∨ i = 1 ∨ i = 3 ∨ i = 4 ∨ i = 5 ∨ i = 6 ∨ i = 7 := by omega
      · cases (show true = false from ready_un HR.out)
      · cases (show true = false from ready_un HR.out)
      · obtain rfl : b1 = false := ready_un HR.out
        refine wpOp_step rfl (fun K' hK => ?_)
        have HK := Lib.hid hK
        clear hK
        rw [if_pos (by rfl)]
        go_simp
        have HZ := Lib.hid (HB.out.trans (HG.out.bel.mono HB.out.size))
        refine (tree12 _ _ _ _ _ _ _ _ _ _ _ _ f0 f1 f2 f3 _ (I0.out.call HZ.out) (I1.out.call HZ.out) (I2.out.call HZ.out) (I3.out.call HZ.out)).mono ?_
        rintro e w' ⟨v, t, rfl, g1, g2, g3⟩
        have hn := pi1 HG.out g1 g2 g3
        exact HK.out _ _ ⟨Or.inr (KS.out _ hn.bel), _, _, _, _, _, _, _, _, _, _, rfl, rfl, hn⟩
      · obtain rfl : b3 = false := ready_un HR.out
        refine wpOp_step rfl (fun K' hK => ?_)
        have HK := Lib.hid hK
        clear hK
        rw [if_pos (by rfl)]
        go_simp
        have HZ := Lib.hid (HB.out.trans (HG.out.bel.mono HB.out.size))
        refine (tree12 _ _ _ _ _ _ _ _ _ _ _ _ f4 f5 f6 f7 _ (I4.out.call HZ.out) (I5.out.call HZ.out) (I6.out.call HZ.out) (I7.out.call HZ.out)).mono ?_
        rintro e w' ⟨v, t, rfl, g1, g2, g3⟩
        have hn := pi3 HG.out g1 g2 g3
        exact HK.out _ _ ⟨Or.inr (KS.out _ hn.bel), _, _, _, _, _, _, _, _, _, _, rfl, rfl, hn⟩
      · obtain rfl : b4 = false := ready_un HR.out
        refine wpOp_step rfl (fun K' hK => ?_)
        have HK := Lib.hid hK
        clear hK
        rw [if_pos (by rfl)]
        go_simp
        have hn := pi4 HG.out
        exact HK.out _ _ ⟨Or.inr (KS.out _ hn.bel), _, _, _, _, _, _, _, _, _, _, rfl, rfl, hn⟩
      · obtain rfl : b5 = false := ready_un HR.out
        refine wpOp_step rfl (fun K' hK => ?_)
        have HK := Lib.hid hK
        clear hK
        rw [if_pos (by rfl)]
        go_simp
        have hn := pi5 HG.out
        exact HK.out _ _ ⟨Or.inr (KS.out _ hn.bel), _, _, _, _, _, _, _, _, _, _, rfl, rfl, hn⟩
      · obtain rfl : b6 = false := ready_un HR.out
        obtain rfl : b1 = true := ready_dep (j := 1) (by kernel_rfl) HR.out
        obtain rfl : b4 = true := ready_dep (j := 4) (by kernel_rfl) HR.out
        obtain ⟨N, hN, rfl, hS⟩ := HG.out.f4 rfl
        obtain ⟨g, k, x, A, n, a, K, m, c, rfl⟩ := (HG.out.f1 rfl).shape
        have HN := Lib.hid hN
        have HNB := Lib.hid (hS.1 rfl)
        clear hN hS
        obtain ⟨r0, r1, r2, r3, r4⟩ := cells5_at HNB.out
        have q0 := blk_frozen HNB.out 0
        have q1 := blk_frozen HNB.out 1
        have q2 := blk_frozen HNB.out 2
        have q3 := blk_frozen HNB.out 3
        have q4 := blk_frozen HNB.out 4
        unfold ptr
        refine wpOp_step rfl (fun K' hK => ?_)
        have HK := Lib.hid hK
        clear hK
        rw [if_pos (by rfl)]
        go_simp
        have hn := pi6 HG.out HN.out HNB.out
        unfold ptr at hn
        exact HK.out _ _ ⟨Or.inr (KS.out _ hn.bel), _, _, _, _, _, _, _, _, _, _, rfl, rfl, hn⟩
      · obtain rfl : b7 = false := ready_un HR.out
        obtain rfl : b3 = true := ready_dep (j := 3) (by kernel_rfl) HR.out
        obtain rfl : b5 = true := ready_dep (j := 5) (by kernel_rfl) HR.out
        obtain ⟨N, hN, rfl, hS⟩ := HG.out.f5 rfl
        obtain ⟨g, k, x, A, n, a, K, m, c, rfl⟩ := (HG.out.f3 rfl).shape
        have HN := Lib.hid hN
        have HNB := Lib.hid (hS.1 rfl)
        clear hN hS
        obtain ⟨r0, r1, r2, r3, r4⟩ := cells5_at HNB.out
        have q0 := blk_frozen HNB.out 0
        have q1 := blk_frozen HNB.out 1
        have q2 := blk_frozen HNB.out 2
        have q3 := blk_frozen HNB.out 3
        have q4 := blk_frozen HNB.out 4
        unfold ptr
        refine wpOp_step rfl (fun K' hK => ?_)
        have HK := Lib.hid hK
        clear hK
        rw [if_pos (by rfl)]
        go_simp
        have hn := pi7 HG.out HN.out HNB.out
        unfold ptr at hn
        exact HK.out _ _ ⟨Or.inr (KS.out _ hn.bel), _, _, _, _, _, _, _, _, _, _, rfl, rfl, hn⟩
    · rintro ls a W ⟨b1, b3, b4, b5, b6, b7, t18, t20, t7, t8, rfl, rfl, hg⟩ hall
      obtain rfl : b1 = true := hall 1 (by decide)
      obtain rfl : b3 = true := hall 3 (by decide)
      obtain rfl : b4 = true := hall 4 (by decide)
      obtain rfl : b5 = true := hall 5 (by decide)
      obtain rfl : b6 = true := hall 6 (by decide)
      obtain rfl : b7 = true := hall 7 (by decide)
      have hend := pi_end hg
      clear hg hall
      go_wp2_with fail
      go_meet
      exact hend
    · exact ⟨false, false, false, false, false, false, _, _, _, _, rfl, rfl, pi_start _ _ _ _ _ ((Below.refl _ _).drew)⟩
  case rest =>
    obtain ⟨N, M, t, u, rfl, rfl, hz, hzb⟩ := hcut
    have TW := Lib.hid hz
    have BZ := Lib.hid (HB.out.trans (hzb.mono HB.out.size))
    have B5Z := Lib.hid HB.out.size
    clear hz hzb HB X1 X2 KS I0 I1 I2 I3 I4 I5 I6 I7
    obtain ⟨z1, hz1⟩ : ∃ z1, wc.heap.size = z1 := ⟨_, rfl⟩
    obtain ⟨g, k, x, A, n, a, K, m, c, hX, hT⟩ := TW.out.t1
    replace hT := hT.mono (q := fun k => k < z1) (fun k _ hk => by rw [← hz1]; exact hk)
    have ZL : Hid (w.heap.size ≤ z1) := by rw [← hz1]; exact Lib.hid BZ.out.size
    have N1 : Hid (N < z1) := by rw [← hz1]; exact Lib.hid (blk_lt hX)
    have XN := Lib.hid hX
    have TN := Lib.hid hT
    obtain ⟨r0, r1, r2, r3, r4⟩ := cells5_at hX
    clear hX hT
    go_wp2_with fail
    refine (copy13 13 _ _ t _ TW.out.wt.2.1 TN.out).mono ?_
    rintro e w2 ⟨av, kv, vs, rfl, hat, hal, hro, hsep, hkl, hb2⟩
    rw [hz1] at hat hro
    have TC : Hid (TrW (fun k => z1 ≤ k) w2 (.agg #[.string t.tag, .string t.key, .string t.text, av, kv]) t) := by
      have h1 := hro.tree (tag := t.tag) (key := t.key) (text := t.text) (fun k hk => hk) ⟨hal, hkl⟩ hat.1 hat.2
      rwa [← Tr.eta t] at h1
    have AT := Lib.hid hat
    have RO := Lib.hid hro
    have SP := Lib.hid hsep
    have LN := Lib.hid hkl
    have LA := Lib.hid hal
    have B2 := Lib.hid hb2
    obtain ⟨K2, c2, hkv⟩ := owns_shape hro.own
    rw [hro.len] at hkv
    obtain ⟨l2, hl2⟩ : ∃ l2, t.kids.length = l2 := ⟨_, rfl⟩
    rw [hl2] at hkv
    have HL := Lib.hid hl2
    obtain ⟨A2, a2, hav, _, _, _⟩ := hat.1
    clear hat hal hro hsep hkl hb2 hl2 r0 r1 r2 r3 r4
    obtain ⟨l1, hl1⟩ : ∃ l1, t.attrs.length = l1 := ⟨_, rfl⟩
    rw [hl1] at hav
    subst hav hkv
    clear hl1
    go_upto_region 3 with fail
    have hz3 := blk_new w2 (.cells #[.string t.tag, .string t.key, .string t.text, .slice A2 l1 a2, .slice K2 l2 c2] 27 (0, 0))
    have hb3 := (Below.refl w2.heap.size w2).alloc (Nat.le_refl _) (.cells #[.string t.tag, .string t.key, .string t.text, .slice A2 l1 a2, .slice K2 l2 c2] 27 (0, 0))
    generalize w2.alloc (.cells #[.string t.tag, .string t.key, .string t.text, .slice A2 l1 a2, .slice K2 l2 c2] 27 (0, 0)) = w3 at *
    have XC := Lib.hid hz3
    have B3 := Lib.hid hb3
    have XN3 := Lib.hid (blk_call (blk_call XN.out B2.out) B3.out)
    have TN3 := Lib.hid ((TN.out.call B2.out).call B3.out)
    obtain ⟨g2, k2, x2, A4, n4', a4, K4, m4, c4', hX2, hT2⟩ := TW.out.t2
    have XM3 := Lib.hid (blk_call (blk_call hX2 B2.out) B3.out)
    have TM3 := Lib.hid ((hT2.call B2.out).call B3.out)
    have TC3 := Lib.hid (TC.out.call B3.out)
    have WT := Lib.hid TW.out.wt
    have WU := Lib.hid TW.out.wu
    have NM := Lib.hid TW.out.hn
    have BZ3 := Lib.hid ((BZ.out.trans (B2.out.mono BZ.out.size)).trans (B3.out.mono (Nat.le_trans BZ.out.size B2.out.size)))
    clear hz3 hb3 hX2 hT2 XN TN TW TC BZ
    obtain ⟨r0, r1, r2, r3, r4⟩ := cells5_at XN3.out
    go_wp2_with fail
    refine (measure14 13 (by omega) _ t _ WT.out.2.1 TN3.out).mono ?_
    rintro e w4 ⟨rfl, hb4⟩
    have B4 := Lib.hid hb4
    clear hb4 r0 r1 r2 r3 r4
    go_upto_region 4 with fail
    have TN4 := Lib.hid (TN3.out.call B4.out)
    have TM4 := Lib.hid (TM3.out.call B4.out)
    have TC4 := Lib.hid (TC3.out.call B4.out)
    have XN4 := Lib.hid (blk_call XN3.out B4.out)
    have XM4 := Lib.hid (blk_call XM3.out B4.out)
    have XC4 := Lib.hid (blk_call XC.out B4.out)
    have SH := Lib.hid (fun W (hW : Below w4.heap.size w4 W) => And.intro (cells5_at (blk_call XN4.out hW)) (And.intro (cells5_at (blk_call XM4.out hW)) (cells5_at (blk_call XC4.out hW))))
    clear TN3 TM3 TC3 XN3 XM3 XC
    go_cut [64] from 65 (fun v64 wz => v64 = .bool false ∧ Below w4.heap.size w4 wz)
    case first =>
      have P0 : Hid (Below w4.heap.size w4 w4.drew) := Lib.hid ((Below.refl _ _).drew)
      refine wp_region_pre 41 (0 :: []) 41 (fun W => Below w4.heap.size w4 W) (by kernel_rfl) (by kernel_rfl) (by decide) (by kernel_rfl) (fun d _ _ _ _ h => by cases d <;> exact h) (P0.out) ?_
      refine pre_q (d := some 23) (v := ?_) rfl rfl (Or.inl ⟨by rfl, ?_⟩) ?_
      rotate_left
      · intro wz hSw
        obtain ⟨⟨a0, a1, a2, a3, a4⟩, ⟨b0, b1, b2, b3, b4⟩, ⟨e0, e1, e2, e3, e4⟩⟩ := SH.out wz hSw
        go_simp
        (try with_reducible rfl)
      try simp only [Act.put, List.setIfInBounds_toArray, List.set_cons_zero, List.set_cons_succ]
      refine pre_nil ?_
      refine sinkw_one (i := 1) (by kernel_rfl) ?_
      refine wpOp_step rfl (fun K' hK => ?_)
      have HK := Lib.hid hK
      clear hK
      rw [if_pos (by rfl)]
      go_simp
      refine (right7 _ t _ (TN4.out.call P0.out) WT.out.nds).mono ?_
      rintro e x1 ⟨rfl, hb⟩
      have P1 := Lib.hid (P0.out.trans (hb.mono P0.out.size))
      clear hb
      rw [WT.out.rt]
      refine HK.out _ _ ⟨Or.inr P1.out, ?_⟩
      clear HK
      try change SinkW _ _ _ _ _ _ _ _ (Act.put _ (some 24) _) _
      try simp only [Act.put, List.setIfInBounds_toArray, List.set_cons_zero, List.set_cons_succ]
      refine sinkw_take (i := 2) (d := some 25) (v := ?_) rfl rfl (by kernel_rfl) (by kernel_rfl) (fun _ _ _ h => h) (Or.inl ⟨by rfl, ?_⟩) (P1.out) ?_
      rotate_left
      · intro wz hSw
        obtain ⟨⟨a0, a1, a2, a3, a4⟩, ⟨b0, b1, b2, b3, b4⟩, ⟨e0, e1, e2, e3, e4⟩⟩ := SH.out wz hSw
        go_simp
        (try with_reducible rfl)
      try simp only [Act.put, List.setIfInBounds_toArray, List.set_cons_zero, List.set_cons_succ]
      refine sinkw_take (i := 3) (d := some 26) (v := ?_) rfl rfl (by kernel_rfl) (by kernel_rfl) (fun _ _ _ h => h) (Or.inl ⟨by rfl, ?_⟩) (P1.out) ?_
      rotate_left
      · intro wz hSw
        obtain ⟨⟨a0, a1, a2, a3, a4⟩, ⟨b0, b1, b2, b3, b4⟩, ⟨e0, e1, e2, e3, e4⟩⟩ := SH.out wz hSw
        go_simp
        (try with_reducible rfl)
      try simp only [Act.put, List.setIfInBounds_toArray, List.set_cons_zero, List.set_cons_succ]
      refine sinkw_take (i := 4) (d := some 27) (v := ?_) rfl rfl (by kernel_rfl) (by kernel_rfl) (fun _ _ _ h => h) (Or.inl ⟨by rfl, ?_⟩) (P1.out) ?_
      rotate_left
      · intro wz hSw
        obtain ⟨⟨a0, a1, a2, a3, a4⟩, ⟨b0, b1, b2, b3, b4⟩, ⟨e0, e1, e2, e3, e4⟩⟩ := SH.out wz hSw
        go_simp
        (try with_reducible rfl)
      try simp only [Act.put, List.setIfInBounds_toArray, List.set_cons_zero, List.set_cons_succ]
      refine sinkw_take (i := 6) (d := some 29) (v := ?_) rfl rfl (by kernel_rfl) (by kernel_rfl) (fun _ _ _ h => h) (Or.inl ⟨by rfl, ?_⟩) (P1.out) ?_
      rotate_left
      · intro wz hSw
        obtain ⟨⟨a0, a1, a2, a3, a4⟩, ⟨b0, b1, b2, b3, b4⟩, ⟨e0, e1, e2, e3, e4⟩⟩ := SH.out wz hSw
        go_simp
        (try with_reducible rfl)
      try simp only [Act.put, List.setIfInBounds_toArray, List.set_cons_zero, List.set_cons_succ]
      refine sinkw_one (i := 5) (by kernel_rfl) ?_
      refine wpOp_step rfl (fun K' hK => ?_)
      have HK := Lib.hid hK
      clear hK
      rw [if_pos (by rfl)]
      go_simp
      refine (count9 13 (by omega) _ t _ WT.out.2.1 (TN4.out.call P1.out)).mono ?_
      rintro e x2 ⟨rfl, hb⟩
      have P2 := Lib.hid (P1.out.trans (hb.mono P1.out.size))
      clear hb
      refine HK.out _ _ ⟨Or.inr P2.out, ?_⟩
      clear HK
      try change SinkW _ _ _ _ _ _ _ _ (Act.put _ (some 28) _) _
      try simp only [Act.put, List.setIfInBounds_toArray, List.set_cons_zero, List.set_cons_succ]
      refine sinkw_take (i := 7) (d := some 30) (v := ?_) rfl rfl (by kernel_rfl) (by kernel_rfl) (fun _ _ _ h => h) (Or.inl ⟨by rfl, ?_⟩) (P2.out) ?_
      rotate_left
      · intro wz hSw
        obtain ⟨⟨a0, a1, a2, a3, a4⟩, ⟨b0, b1, b2, b3, b4⟩, ⟨e0, e1, e2, e3, e4⟩⟩ := SH.out wz hSw
        go_simp
        (try with_reducible rfl)
      try simp only [Act.put, List.setIfInBounds_toArray, List.set_cons_zero, List.set_cons_succ]
      refine sinkw_take (i := 8) (d := some 31) (v := ?_) rfl rfl (by kernel_rfl) (by kernel_rfl) (fun _ _ _ h => h) (Or.inl ⟨by rfl, ?_⟩) (P2.out) ?_
      rotate_left
      · intro wz hSw
        obtain ⟨⟨a0, a1, a2, a3, a4⟩, ⟨b0, b1, b2, b3, b4⟩, ⟨e0, e1, e2, e3, e4⟩⟩ := SH.out wz hSw
        go_simp
        (try with_reducible rfl)
      try simp only [Act.put, List.setIfInBounds_toArray, List.set_cons_zero, List.set_cons_succ]
      refine sinkw_take (i := 9) (d := some 32) (v := ?_) rfl rfl (by kernel_rfl) (by kernel_rfl) (fun _ _ _ h => h) (Or.inl ⟨by rfl, ?_⟩) (P2.out) ?_
      rotate_left
      · intro wz hSw
        obtain ⟨⟨a0, a1, a2, a3, a4⟩, ⟨b0, b1, b2, b3, b4⟩, ⟨e0, e1, e2, e3, e4⟩⟩ := SH.out wz hSw
        go_simp
        (try with_reducible rfl)
      try simp only [Act.put, List.setIfInBounds_toArray, List.set_cons_zero, List.set_cons_succ]
      refine sinkw_take (i := 10) (d := some 33) (v := ?_) rfl rfl (by kernel_rfl) (by kernel_rfl) (fun _ _ _ h => h) (Or.inl ⟨by rfl, ?_⟩) (P2.out) ?_
      rotate_left
      · intro wz hSw
        obtain ⟨⟨a0, a1, a2, a3, a4⟩, ⟨b0, b1, b2, b3, b4⟩, ⟨e0, e1, e2, e3, e4⟩⟩ := SH.out wz hSw
        go_simp
        (try with_reducible rfl)
      try simp only [Act.put, List.setIfInBounds_toArray, List.set_cons_zero, List.set_cons_succ]
      refine sinkw_take (i := 12) (d := some 35) (v := ?_) rfl rfl (by kernel_rfl) (by kernel_rfl) (fun _ _ _ h => h) (Or.inl ⟨by rfl, ?_⟩) (P2.out) ?_
      rotate_left
      · intro wz hSw
        obtain ⟨⟨a0, a1, a2, a3, a4⟩, ⟨b0, b1, b2, b3, b4⟩, ⟨e0, e1, e2, e3, e4⟩⟩ := SH.out wz hSw
        go_simp
        (try with_reducible rfl)
      try simp only [Act.put, List.setIfInBounds_toArray, List.set_cons_zero, List.set_cons_succ]
      refine sinkw_one (i := 11) (by kernel_rfl) ?_
      refine wpOp_step rfl (fun K' hK => ?_)
      have HK := Lib.hid hK
      clear hK
      rw [if_pos (by rfl)]
      go_simp
      refine (deep10 13 (by omega) _ t _ WT.out.2.1 (TN4.out.call P2.out)).mono ?_
      rintro e x3 ⟨rfl, hb⟩
      have P3 := Lib.hid (P2.out.trans (hb.mono P2.out.size))
      clear hb
      refine HK.out _ _ ⟨Or.inr P3.out, ?_⟩
      clear HK
      try change SinkW _ _ _ _ _ _ _ _ (Act.put _ (some 34) _) _
      try simp only [Act.put, List.setIfInBounds_toArray, List.set_cons_zero, List.set_cons_succ]
      refine sinkw_take (i := 13) (d := some 36) (v := ?_) rfl rfl (by kernel_rfl) (by kernel_rfl) (fun _ _ _ h => h) (Or.inl ⟨by rfl, ?_⟩) (P3.out) ?_
      rotate_left
      · intro wz hSw
        obtain ⟨⟨a0, a1, a2, a3, a4⟩, ⟨b0, b1, b2, b3, b4⟩, ⟨e0, e1, e2, e3, e4⟩⟩ := SH.out wz hSw
        go_simp
        (try with_reducible rfl)
      try simp only [Act.put, List.setIfInBounds_toArray, List.set_cons_zero, List.set_cons_succ]
      refine sinkw_take (i := 14) (d := some 37) (v := ?_) rfl rfl (by kernel_rfl) (by kernel_rfl) (fun _ _ _ h => h) (Or.inl ⟨by rfl, ?_⟩) (P3.out) ?_
      rotate_left
      · intro wz hSw
        obtain ⟨⟨a0, a1, a2, a3, a4⟩, ⟨b0, b1, b2, b3, b4⟩, ⟨e0, e1, e2, e3, e4⟩⟩ := SH.out wz hSw
        go_simp
        (try with_reducible rfl)
      try simp only [Act.put, List.setIfInBounds_toArray, List.set_cons_zero, List.set_cons_succ]
      refine sinkw_take (i := 15) (d := some 38) (v := ?_) rfl rfl (by kernel_rfl) (by kernel_rfl) (fun _ _ _ h => h) (Or.inl ⟨by rfl, ?_⟩) (P3.out) ?_
      rotate_left
      · intro wz hSw
        obtain ⟨⟨a0, a1, a2, a3, a4⟩, ⟨b0, b1, b2, b3, b4⟩, ⟨e0, e1, e2, e3, e4⟩⟩ := SH.out wz hSw
        go_simp
        (try with_reducible rfl)
      try simp only [Act.put, List.setIfInBounds_toArray, List.set_cons_zero, List.set_cons_succ]
      refine sinkw_take (i := 16) (d := some 39) (v := ?_) rfl rfl (by kernel_rfl) (by kernel_rfl) (fun _ _ _ h => h) (Or.inl ⟨by rfl, ?_⟩) (P3.out) ?_
      rotate_left
      · intro wz hSw
        obtain ⟨⟨a0, a1, a2, a3, a4⟩, ⟨b0, b1, b2, b3, b4⟩, ⟨e0, e1, e2, e3, e4⟩⟩ := SH.out wz hSw
        go_simp
        (try with_reducible rfl)
      try simp only [Act.put, List.setIfInBounds_toArray, List.set_cons_zero, List.set_cons_succ]
      refine sinkw_take (i := 18) (d := some 41) (v := ?_) rfl rfl (by kernel_rfl) (by kernel_rfl) (fun _ _ _ h => h) (Or.inl ⟨by rfl, ?_⟩) (P3.out) ?_
      rotate_left
      · intro wz hSw
        obtain ⟨⟨a0, a1, a2, a3, a4⟩, ⟨b0, b1, b2, b3, b4⟩, ⟨e0, e1, e2, e3, e4⟩⟩ := SH.out wz hSw
        go_simp
        (try with_reducible rfl)
      try simp only [Act.put, List.setIfInBounds_toArray, List.set_cons_zero, List.set_cons_succ]
      refine sinkw_one (i := 17) (by kernel_rfl) ?_
      refine wpOp_step rfl (fun K' hK => ?_)
      have HK := Lib.hid hK
      clear hK
      rw [if_pos (by rfl)]
      go_simp
      refine (slots11 13 (by omega) _ t _ WT.out.2.1 (TN4.out.call P3.out)).mono ?_
      rintro e x4 ⟨rfl, hb⟩
      have P4 := Lib.hid (P3.out.trans (hb.mono P3.out.size))
      clear hb
      refine HK.out _ _ ⟨Or.inr P4.out, ?_⟩
      clear HK
      try change SinkW _ _ _ _ _ _ _ _ (Act.put _ (some 40) _) _
      try simp only [Act.put, List.setIfInBounds_toArray, List.set_cons_zero, List.set_cons_succ]
      refine sinkw_take (i := 19) (d := some 42) (v := ?_) rfl rfl (by kernel_rfl) (by kernel_rfl) (fun _ _ _ h => h) (Or.inl ⟨by rfl, ?_⟩) (P4.out) ?_
      rotate_left
      · intro wz hSw
        obtain ⟨⟨a0, a1, a2, a3, a4⟩, ⟨b0, b1, b2, b3, b4⟩, ⟨e0, e1, e2, e3, e4⟩⟩ := SH.out wz hSw
        go_simp
        (try with_reducible rfl)
      try simp only [Act.put, List.setIfInBounds_toArray, List.set_cons_zero, List.set_cons_succ]
      refine sinkw_take (i := 20) (d := some 43) (v := ?_) rfl rfl (by kernel_rfl) (by kernel_rfl) (fun _ _ _ h => h) (Or.inl ⟨by rfl, ?_⟩) (P4.out) ?_
      rotate_left
      · intro wz hSw
        obtain ⟨⟨a0, a1, a2, a3, a4⟩, ⟨b0, b1, b2, b3, b4⟩, ⟨e0, e1, e2, e3, e4⟩⟩ := SH.out wz hSw
        go_simp
        (try with_reducible rfl)
      try simp only [Act.put, List.setIfInBounds_toArray, List.set_cons_zero, List.set_cons_succ]
      refine sinkw_take (i := 21) (d := some 44) (v := ?_) rfl rfl (by kernel_rfl) (by kernel_rfl) (fun _ _ _ h => h) (Or.inl ⟨by rfl, ?_⟩) (P4.out) ?_
      rotate_left
      · intro wz hSw
        obtain ⟨⟨a0, a1, a2, a3, a4⟩, ⟨b0, b1, b2, b3, b4⟩, ⟨e0, e1, e2, e3, e4⟩⟩ := SH.out wz hSw
        go_simp
        (try with_reducible rfl)
      try simp only [Act.put, List.setIfInBounds_toArray, List.set_cons_zero, List.set_cons_succ]
      refine sinkw_take (i := 22) (d := some 45) (v := ?_) rfl rfl (by kernel_rfl) (by kernel_rfl) (fun _ _ _ h => h) (Or.inl ⟨by rfl, ?_⟩) (P4.out) ?_
      rotate_left
      · intro wz hSw
        obtain ⟨⟨a0, a1, a2, a3, a4⟩, ⟨b0, b1, b2, b3, b4⟩, ⟨e0, e1, e2, e3, e4⟩⟩ := SH.out wz hSw
        go_simp
        (try with_reducible rfl)
      try simp only [Act.put, List.setIfInBounds_toArray, List.set_cons_zero, List.set_cons_succ]
      refine sinkw_take (i := 23) (d := some 46) (v := ?_) rfl rfl (by kernel_rfl) (by kernel_rfl) (fun _ _ _ h => h) (Or.inl ⟨by rfl, ?_⟩) (P4.out) ?_
      rotate_left
      · intro wz hSw
        obtain ⟨⟨a0, a1, a2, a3, a4⟩, ⟨b0, b1, b2, b3, b4⟩, ⟨e0, e1, e2, e3, e4⟩⟩ := SH.out wz hSw
        go_simp
        (try with_reducible rfl)
      try simp only [Act.put, List.setIfInBounds_toArray, List.set_cons_zero, List.set_cons_succ]
      refine sinkw_one (i := 24) (by kernel_rfl) ?_
      refine wpOp_step rfl (fun K' hK => ?_)
      have HK := Lib.hid hK
      clear hK
      rw [if_pos (by rfl)]
      go_simp
      refine (trees15 (tsz t) _ _ t t _ (Nat.le_refl _) (TC4.out.call P4.out) (TN4.out.call P4.out)).mono ?_
      rintro e x5 ⟨rfl, hb⟩
      have P5 := Lib.hid (P4.out.trans (hb.mono P4.out.size))
      clear hb
      rw [trB_true rfl]
      refine HK.out _ _ ⟨Or.inr P5.out, ?_⟩
      clear HK
      try change SinkW _ _ _ _ _ _ _ _ (Act.put _ (some 47) _) _
      try simp only [Act.put, List.setIfInBounds_toArray, List.set_cons_zero, List.set_cons_succ]
      refine sinkw_take (i := 25) (d := some 48) (v := ?_) rfl rfl (by kernel_rfl) (by kernel_rfl) (fun _ _ _ h => h) (Or.inl ⟨by rfl, ?_⟩) (P5.out) ?_
      rotate_left
      · intro wz hSw
        obtain ⟨⟨a0, a1, a2, a3, a4⟩, ⟨b0, b1, b2, b3, b4⟩, ⟨e0, e1, e2, e3, e4⟩⟩ := SH.out wz hSw
        go_simp
        (try with_reducible rfl)
      try simp only [Act.put, List.setIfInBounds_toArray, List.set_cons_zero, List.set_cons_succ]
      refine sinkw_take (i := 26) (d := some 49) (v := ?_) rfl rfl (by kernel_rfl) (by kernel_rfl) (fun _ _ _ h => h) (Or.inl ⟨by rfl, ?_⟩) (P5.out) ?_
      rotate_left
      · intro wz hSw
        obtain ⟨⟨a0, a1, a2, a3, a4⟩, ⟨b0, b1, b2, b3, b4⟩, ⟨e0, e1, e2, e3, e4⟩⟩ := SH.out wz hSw
        go_simp
        (try with_reducible rfl)
      try simp only [Act.put, List.setIfInBounds_toArray, List.set_cons_zero, List.set_cons_succ]
      refine sinkw_take (i := 27) (d := some 50) (v := ?_) rfl rfl (by kernel_rfl) (by kernel_rfl) (fun _ _ _ h => h) (Or.inl ⟨by rfl, ?_⟩) (P5.out) ?_
      rotate_left
      · intro wz hSw
        obtain ⟨⟨a0, a1, a2, a3, a4⟩, ⟨b0, b1, b2, b3, b4⟩, ⟨e0, e1, e2, e3, e4⟩⟩ := SH.out wz hSw
        go_simp
        (try with_reducible rfl)
      try simp only [Act.put, List.setIfInBounds_toArray, List.set_cons_zero, List.set_cons_succ]
      refine sinkw_take (i := 28) (d := some 51) (v := ?_) rfl rfl (by kernel_rfl) (by kernel_rfl) (fun _ _ _ h => h) (Or.inl ⟨by rfl, ?_⟩) (P5.out) ?_
      rotate_left
      · intro wz hSw
        obtain ⟨⟨a0, a1, a2, a3, a4⟩, ⟨b0, b1, b2, b3, b4⟩, ⟨e0, e1, e2, e3, e4⟩⟩ := SH.out wz hSw
        go_simp
        (try with_reducible rfl)
      try simp only [Act.put, List.setIfInBounds_toArray, List.set_cons_zero, List.set_cons_succ]
      refine sinkw_take (i := 29) (d := some 52) (v := ?_) rfl rfl (by kernel_rfl) (by kernel_rfl) (fun _ _ _ h => h) (Or.inl ⟨by rfl, ?_⟩) (P5.out) ?_
      rotate_left
      · intro wz hSw
        obtain ⟨⟨a0, a1, a2, a3, a4⟩, ⟨b0, b1, b2, b3, b4⟩, ⟨e0, e1, e2, e3, e4⟩⟩ := SH.out wz hSw
        go_simp
        (try with_reducible rfl)
      try simp only [Act.put, List.setIfInBounds_toArray, List.set_cons_zero, List.set_cons_succ]
      refine sinkw_take (i := 31) (d := some 54) (v := ?_) rfl rfl (by kernel_rfl) (by kernel_rfl) (fun _ _ _ h => h) (Or.inl ⟨by rfl, ?_⟩) (P5.out) ?_
      rotate_left
      · intro wz hSw
        obtain ⟨⟨a0, a1, a2, a3, a4⟩, ⟨b0, b1, b2, b3, b4⟩, ⟨e0, e1, e2, e3, e4⟩⟩ := SH.out wz hSw
        go_simp
        (try with_reducible rfl)
      try simp only [Act.put, List.setIfInBounds_toArray, List.set_cons_zero, List.set_cons_succ]
      refine sinkw_take (i := 32) (d := some 55) (v := ?_) rfl rfl (by kernel_rfl) (by kernel_rfl) (fun _ _ _ h => h) (Or.inl ⟨by rfl, ?_⟩) (P5.out) ?_
      rotate_left
      · intro wz hSw
        obtain ⟨⟨a0, a1, a2, a3, a4⟩, ⟨b0, b1, b2, b3, b4⟩, ⟨e0, e1, e2, e3, e4⟩⟩ := SH.out wz hSw
        go_simp
        (try with_reducible rfl)
      try simp only [Act.put, List.setIfInBounds_toArray, List.set_cons_zero, List.set_cons_succ]
      refine sinkw_one (i := 30) (by kernel_rfl) ?_
      refine wpOp_step rfl (fun K' hK => ?_)
      have HK := Lib.hid hK
      clear hK
      rw [if_pos (by rfl)]
      go_simp
      refine (same16 13 _ _ _ _ t u _ WT.out.2.1 (TN4.out.call P5.out) (TM4.out.call P5.out)).mono ?_
      rintro e x6 ⟨rfl, hb⟩
      have P6 := Lib.hid (P5.out.trans (hb.mono P5.out.size))
      clear hb
      refine HK.out _ _ ⟨Or.inr P6.out, ?_⟩
      clear HK
      try change SinkW _ _ _ _ _ _ _ _ (Act.put _ (some 53) _) _
      try simp only [Act.put, List.setIfInBounds_toArray, List.set_cons_zero, List.set_cons_succ]
      refine sinkw_one (i := 33) (by kernel_rfl) ?_
      refine wpOp_step rfl (fun K' hK => ?_)
      have HK := Lib.hid hK
      clear hK
      rw [if_pos (by rfl)]
      go_simp
      refine (trees15 (tsz t) _ _ t u _ (Nat.le_refl _) (TN4.out.call P6.out) (TM4.out.call P6.out)).mono ?_
      rintro e x7 ⟨rfl, hb⟩
      have P7 := Lib.hid (P6.out.trans (hb.mono P6.out.size))
      clear hb
      refine HK.out _ _ ⟨Or.inr P7.out, ?_⟩
      clear HK
      try change SinkW _ _ _ _ _ _ _ _ (Act.put _ (some 56) _) _
      try simp only [Act.put, List.setIfInBounds_toArray, List.set_cons_zero, List.set_cons_succ]
      generalize trB t u = bb
      refine sinkw_take (i := 34) (d := some 57) (v := ?_) rfl rfl (by kernel_rfl) (by kernel_rfl) (fun _ _ _ h => h) (Or.inl ⟨by rfl, ?_⟩) (P7.out) ?_
      rotate_left
      · intro wz hSw
        obtain ⟨⟨a0, a1, a2, a3, a4⟩, ⟨b0, b1, b2, b3, b4⟩, ⟨e0, e1, e2, e3, e4⟩⟩ := SH.out wz hSw
        go_simp
        (try with_reducible rfl)
      try simp only [Act.put, List.setIfInBounds_toArray, List.set_cons_zero, List.set_cons_succ]
      refine sinkw_take (i := 35) (d := some 58) (v := ?_) rfl rfl (by kernel_rfl) (by kernel_rfl) (fun _ _ _ h => h) (Or.inl ⟨by rfl, ?_⟩) (P7.out) ?_
      rotate_left
      · intro wz hSw
        obtain ⟨⟨a0, a1, a2, a3, a4⟩, ⟨b0, b1, b2, b3, b4⟩, ⟨e0, e1, e2, e3, e4⟩⟩ := SH.out wz hSw
        go_simp
        (try with_reducible rfl)
      try simp only [Act.put, List.setIfInBounds_toArray, List.set_cons_zero, List.set_cons_succ]
      refine sinkw_take (i := 36) (d := some 59) (v := ?_) rfl rfl (by kernel_rfl) (by kernel_rfl) (fun _ _ _ h => h) (Or.inl ⟨by rfl, ?_⟩) (P7.out) ?_
      rotate_left
      · intro wz hSw
        obtain ⟨⟨a0, a1, a2, a3, a4⟩, ⟨b0, b1, b2, b3, b4⟩, ⟨e0, e1, e2, e3, e4⟩⟩ := SH.out wz hSw
        go_simp
        (try with_reducible rfl)
      try simp only [Act.put, List.setIfInBounds_toArray, List.set_cons_zero, List.set_cons_succ]
      refine sinkw_take (i := 37) (d := some 60) (v := ?_) rfl rfl (by kernel_rfl) (by kernel_rfl) (fun _ _ _ h => h) (Or.inl ⟨by rfl, ?_⟩) (P7.out) ?_
      rotate_left
      · intro wz hSw
        obtain ⟨⟨a0, a1, a2, a3, a4⟩, ⟨b0, b1, b2, b3, b4⟩, ⟨e0, e1, e2, e3, e4⟩⟩ := SH.out wz hSw
        go_simp
        (try with_reducible rfl)
      try simp only [Act.put, List.setIfInBounds_toArray, List.set_cons_zero, List.set_cons_succ]
      refine sinkw_take (i := 38) (d := some 61) (v := ?_) rfl rfl (by kernel_rfl) (by kernel_rfl) (fun _ _ _ h => h) (Or.inl ⟨by rfl, ?_⟩) (P7.out) ?_
      rotate_left
      · intro wz hSw
        obtain ⟨⟨a0, a1, a2, a3, a4⟩, ⟨b0, b1, b2, b3, b4⟩, ⟨e0, e1, e2, e3, e4⟩⟩ := SH.out wz hSw
        go_simp
        (try with_reducible rfl)
      try simp only [Act.put, List.setIfInBounds_toArray, List.set_cons_zero, List.set_cons_succ]
      refine sinkw_one (i := 39) (by kernel_rfl) ?_
      refine wpOp_step rfl (fun K' hK => ?_)
      have HK := Lib.hid hK
      clear hK
      rw [if_pos (by rfl)]
      go_simp
      refine (same16 13 _ _ _ _ t t _ WT.out.2.1 (TC4.out.call P7.out) (TN4.out.call P7.out)).mono ?_
      rintro e x8 ⟨rfl, hb⟩
      have P8 := Lib.hid (P7.out.trans (hb.mono P7.out.size))
      clear hb
      rw [trB_true rfl]
      refine HK.out _ _ ⟨Or.inr P8.out, ?_⟩
      clear HK
      try change SinkW _ _ _ _ _ _ _ _ (Act.put _ (some 62) _) _
      try simp only [Act.put, List.setIfInBounds_toArray, List.set_cons_zero, List.set_cons_succ]
      refine sinkw_take (i := 40) (d := some 63) (v := ?_) rfl rfl (by kernel_rfl) (by kernel_rfl) (fun _ _ _ h => h) (Or.inl ⟨by rfl, ?_⟩) (P8.out) ?_
      rotate_left
      · intro wz hSw
        obtain ⟨⟨a0, a1, a2, a3, a4⟩, ⟨b0, b1, b2, b3, b4⟩, ⟨e0, e1, e2, e3, e4⟩⟩ := SH.out wz hSw
        go_simp
        (try with_reducible rfl)
      try simp only [Act.put, List.setIfInBounds_toArray, List.set_cons_zero, List.set_cons_succ]
      refine sinkw_one (i := 41) (by kernel_rfl) ?_
      refine wpOp_step rfl (fun K' hK => ?_)
      have HK := Lib.hid hK
      clear hK
      rw [if_pos (by rfl)]
      go_simp
      refine HK.out _ _ ⟨Or.inr P8.out, ?_⟩
      clear HK
      try change SinkW _ _ _ _ _ _ _ _ (Act.put _ (some 64) _) _
      try simp only [Act.put, List.setIfInBounds_toArray, List.set_cons_zero, List.set_cons_succ]
      refine sinkw_done (by kernel_rfl) ?_
      have PE := P8.out
      clear SH
      go_wp2_with fail
      go_meet
      exact ⟨rfl, PE⟩
    case rest =>
      obtain ⟨rfl, hz⟩ := hcut
      have BC := Lib.hid hz
      clear hz SH
      have XCc := Lib.hid (blk_call XC4.out BC.out)
      have e4 := blk_cell XCc.out 4
      simp only [List.getElem?_toArray, List.getElem?_cons_succ, List.getElem?_cons_zero] at e4
      have BE := Lib.hid ((BZ3.out.trans (B4.out.mono BZ3.out.size)).trans (BC.out.mono (Nat.le_trans BZ3.out.size B4.out.size)))
      by_cases hlz : l2 = 0
      · subst hlz
        go_wp2_with fail
        refine (runs3 _).mono ?_
        rintro e w9 ⟨rfl, hb9⟩
        have BF := Lib.hid (BE.out.trans (hb9.mono BE.out.size))
        clear hb9
        go_wp2_with fail
        go_ret
        exact ⟨rfl, BF.out⟩
      · have q0 : decide (0 < l2) = true := decide_eq_true (by omega)
        have B2C := Lib.hid ((B3.out.trans (B4.out.mono B3.out.size)).trans (BC.out.mono (Nat.le_trans B3.out.size B4.out.size)))
        obtain ⟨t0, ts, hks⟩ : ∃ t0 ts, t.kids = t0 :: ts := by
          cases h : t.kids with
          | nil => exact absurd (HL.out.symm.trans (congrArg List.length h)) hlz
          | cons a b => exact ⟨a, b, rfl⟩
        have RC := RO.out.call B2C.out
        have hll := LN.out
        rw [hks] at RC hll
        obtain ⟨g5, cap, cur, e5, h5B, h5lt, h5b, h5s, h5t⟩ := kid_set (tag := t.tag) (key := t.key) (text := t.text) RC (fun k hk => hk) ⟨LA.out, hll⟩ (AT.out.1.call B2C.out) AT.out.2 SP.out ⟨#[122, 122]⟩ ⟨#[111, 116, 104, 101, 114]⟩
        injection e5 with e5 e6 e7
        subst e5 e7
        have G2 : Hid (g5 < w2.heap.size) := Lib.hid (RO.out.own.lt g5 rfl).2
        have GN : Hid (N ≠ g5) := Lib.hid (by have := N1.out; omega)
        have GC : Hid (w2.heap.size ≠ g5) := Lib.hid (by have := G2.out; omega)
        obtain ⟨y0, hy0⟩ : ∃ y0, cur[0]? = some y0 := ⟨_, Array.getElem?_eq_getElem (by omega)⟩
        obtain ⟨y1, hy1⟩ : ∃ y1, cur[1]? = some y1 := ⟨_, Array.getElem?_eq_getElem (by omega)⟩
        have XG6 := blk_setCell h5b 0 (.string ⟨#[122, 122]⟩)
        have XC6 := blk_setCell_other XCc.out (p := ⟨g5, 0, none⟩) GC.out (.string ⟨#[122, 122]⟩)
        have c60 := (blk_cell XG6 1).trans ((Array.getElem?_setIfInBounds_ne (by omega)).trans hy1)
        have f60 := blk_frozen XG6 1
        have e46 := blk_cell XC6 4
        simp only [List.getElem?_toArray, List.getElem?_cons_succ, List.getElem?_cons_zero] at e46
        have c50 := (blk_cell h5b 0).trans hy0
        have f50 := blk_frozen h5b 0
        have KP := Lib.hid (((Kp.refl (fun k => k = g5) wc).setCell (p := ⟨g5, 0, none⟩) (fun _ => rfl) (.string ⟨#[122, 122]⟩)).setCell (p := ⟨g5, 1, none⟩) (fun _ => rfl) (.string ⟨#[111, 116, 104, 101, 114]⟩))
        have H5T := Lib.hid h5t
        have HKS := Lib.hid hks
        have E6 := Lib.hid e6
        have Z5 := Lib.hid h5B
        clear h5t hks e6 h5B h5lt h5b h5s hy0 hy1 hll RC XG6 XC6
        go_upto_region 8 with fail
        generalize wc.setCell _ _ = w6 at *
        clear c50 f50 e4
        go_upto_region 9 with fail
        generalize w6.setCell _ _ = w7 at *
        clear c60 f60 e46
        have XC7 := Lib.hid ((KP.out.block _ (blk_lt XCc.out) GC.out).trans XCc.out)
        have XN7 := Lib.hid ((KP.out.block N (Nat.lt_of_lt_of_le (blk_lt XN4.out) BC.out.size) GN.out).trans (blk_call XN4.out BC.out))
        have TN7 := Lib.hid ((TN4.out.call BC.out).frame (fun k hk hl => KP.out.block k hl (fun e => by have := Z5.out; omega)))
        have BE7 := Lib.hid (BE.out.trans (KP.out.below BE.out.size (fun k hk e => by have := Z5.out; have := ZL.out; omega)))
        obtain ⟨ct, hct, hcf⟩ : ∃ ct, Tr.mk t.tag t.key t.text t.attrs (.mk ⟨#[122, 122]⟩ ⟨#[111, 116, 104, 101, 114]⟩ t0.text t0.attrs t0.kids :: ts) = ct ∧ trB ct t = false := ⟨_, rfl, kid_key WT.out HKS.out (by decide)⟩
        rw [hct] at H5T
        have CF := Lib.hid hcf
        clear hct hcf
        obtain ⟨r0, r1, r2, r3, r4⟩ := cells5_at XN7.out
        obtain ⟨s0, s1, s2, s3, s4⟩ := cells5_at XC7.out
        go_wp2_with fail
        refine (trees15 (tsz ct) _ _ ct t _ (Nat.le_refl _) H5T.out TN7.out).mono ?_
        rintro e w8 ⟨rfl, hb8⟩
        have B8 := Lib.hid hb8
        rw [CF.out]
        clear hb8 r0 r1 r2 r3 r4 s0 s1 s2 s3 s4
        obtain ⟨r0, r1, r2, r3, r4⟩ := cells5_at (blk_call XN7.out B8.out)
        obtain ⟨s0, s1, s2, s3, s4⟩ := cells5_at (blk_call XC7.out B8.out)
        go_wp2_with fail
        refine (same16 _ _ _ _ _ ct t _ (Nat.le_refl _) (H5T.out.call B8.out) (TN7.out.call B8.out)).mono ?_
        rintro e w9 ⟨rfl, hb9⟩
        have B9 := Lib.hid ((BE7.out.trans (B8.out.mono BE7.out.size)).trans (hb9.mono (Nat.le_trans BE7.out.size B8.out.size)))
        rw [CF.out]
        clear hb9 r0 r1 r2 r3 r4 s0 s1 s2 s3 s4
        go_wp2_with fail
        refine (runs3 _).mono ?_
        rintro e w10 ⟨rfl, hb10⟩
        have BF := Lib.hid (B9.out.trans (hb10.mono B9.out.size))
        clear hb10
        go_wp2_with fail
        go_ret
        exact ⟨rfl, BF.out⟩
end Go.Proofs.Ytolklphenllhpaa
