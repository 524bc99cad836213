/-
  ShapePrints: two trees print alike just if they are the same; kids' texts stand in their parent's; one that isn't right has none.
-/
import Derived.Test.YtolklphenllhpaaTwo
import Derived.Test.YtolklphenllhpaaCpy
import Derived.Test.YtolklphenllhpaaBad
import Derived.Test.YtolklphenllhpaaVee
import Derived.Test.YtolklphenllhpaaMks
import Derived.Deep.LoopGhost
import Derived.Deep.CutBlock
namespace Go.Proofs.Ytolklphenllhpaa
open Go.RowKit Go.PlainAid
set_option maxRecDepth 100000

theorem TrW.kid {p : Nat → Prop} {w : World} {g k x : Tx} {av : Value} {A : Option Addr} {m c : Nat} {t : Tr} (h : TrW p w (.agg #[.string g, .string k, .string x, av, .slice A m c]) t) :
    g = t.tag ∧ m = t.kids.length ∧ ∀ i, i < m → ∃ b o g5 k5 x5 A5 n5 a5 K5 m5 c5, A = some ⟨b, o, none⟩ ∧ w.cell? ⟨b, o + i * 5, none⟩ = some (.string g5) ∧ w.cell? ⟨b, o + i * 5 + 1, none⟩ = some (.string k5) ∧ w.cell? ⟨b, o + i * 5 + 2, none⟩ = some (.string x5) ∧
      w.cell? ⟨b, o + i * 5 + 3, none⟩ = some (.slice A5 n5 a5) ∧ w.cell? ⟨b, o + i * 5 + 4, none⟩ = some (.slice K5 m5 c5) ∧ TrW p w (.agg #[.string g5, .string k5, .string x5, .slice A5 n5 a5, .slice K5 m5 c5]) (t.kids.getD i tr0) := by
  cases h with
  | mk cv hb ha hap hc hk ht =>
    refine ⟨rfl, rfl, fun i hi => ?_⟩
    obtain ⟨b, o, x0, x1, x2, x3, x4, e, _, ec, h0, h1, h2, h3, h4⟩ := hk i hi
    have h5 := ht i hi
    rw [ec] at h5
    obtain ⟨g5, y5, t5, at5, kd5, A5, n5, a5, K5, c5, et, ev⟩ := h5.parts
    cases ev
    exact ⟨b, o, _, _, _, _, _, _, _, _, _, e, h0, h1, h2, h3, h4, h5⟩

theorem TrW.retext {p : Nat → Prop} {w : World} {g k x : Tx} {av kv : Value} {t : Tr} (h : TrW p w (.agg #[.string g, .string k, .string x, av, kv]) t) (g' k' x' : Tx) : TrW p w (.agg #[.string g', .string k', .string x', av, kv]) (.mk g' k' x' t.attrs t.kids) := by
  cases h with
  | mk cv hb ha hap hc hk ht => exact .mk cv hb ha hap hc hk ht
/-- what the switch leaves: a tree that isn't right in the block Z -/
def Swt (Z : Nat) (w wz : World) : Prop := ∃ b, Ts (fun k => k ≠ Z) wz Z b ∧ Bdd b ∧ Kp (fun k => k = Z) w wz
theorem swt_0 {w : World} {Z : Nat} {t : Tr} {A K : Option Addr} {n a m c : Nat} (hX : w.heap[Z]? = some (.cells #[.string t.tag, .string t.key, .string t.text, .slice A n a, .slice K m c] 27 (0, 0))) (hT : TrW (fun k => k ≠ Z) w (.agg #[.string t.tag, .string t.key, .string t.text, .slice A n a, .slice K m c]) t) (h : WoT t) :
    Swt Z w (w.setCell ⟨Z, 0, none⟩ (.string ⟨#[65]⟩)) := by
  have hk := (Kp.refl (fun k => k = Z) w).setCell (p := ⟨Z, 0, none⟩) (fun _ => rfl) (.string ⟨#[65]⟩)
  refine ⟨_, ⟨⟨#[65]⟩, t.key, t.text, A, n, a, K, m, c, blk_setCell hX 0 _, (hT.frame (fun k hk' hl => hk.block k hl hk')).retext _ _ _⟩, bad0 h, hk⟩
theorem swt_1 {w : World} {Z : Nat} {t : Tr} {A K : Option Addr} {n a m c : Nat} (hX : w.heap[Z]? = some (.cells #[.string t.tag, .string t.key, .string t.text, .slice A n a, .slice K m c] 27 (0, 0))) (hT : TrW (fun k => k ≠ Z) w (.agg #[.string t.tag, .string t.key, .string t.text, .slice A n a, .slice K m c]) t) (h : WoT t) :
    Swt Z w ((w.setCell ⟨Z, 0, none⟩ (.string ⟨#[97]⟩)).setCell ⟨Z, 2, none⟩ (.string ⟨#[120]⟩)) := by
  have hk := ((Kp.refl (fun k => k = Z) w).setCell (p := ⟨Z, 0, none⟩) (fun _ => rfl) (.string ⟨#[97]⟩)).setCell (p := ⟨Z, 2, none⟩) (fun _ => rfl) (.string ⟨#[120]⟩)
  refine ⟨_, ⟨⟨#[97]⟩, t.key, ⟨#[120]⟩, A, n, a, K, m, c, blk_setCell (blk_setCell hX 0 _) 2 _, (hT.frame (fun k hk' hl => hk.block k hl hk')).retext _ _ _⟩, bad1 h, hk⟩
/-- a tree that is stored whole in the block Z, behind new blocks -/
theorem swt_whole {w w1 : World} {Z : Nat} {cs : Array Value} {b : Tr} {g k x : Tx} {A K : Option Addr} {n a m c : Nat} (hX : w1.heap[Z]? = some (.cells cs 27 (0, 0))) (hz : cs.size = 5) (hw : Kp (fun k => k = Z) w w1) (hT : TrW (fun k => k ≠ Z) w1 (.agg #[.string g, .string k, .string x, .slice A n a, .slice K m c]) b) (hb : Bdd b) :
    Swt Z w (((((w1.setCell ⟨Z, 0, none⟩ (.string g)).setCell ⟨Z, 1, none⟩ (.string k)).setCell ⟨Z, 2, none⟩ (.string x)).setCell ⟨Z, 3, none⟩ (.slice A n a)).setCell ⟨Z, 4, none⟩ (.slice K m c)) := by
  have hs := set5 w1 Z 27 (.string g) (.string k) (.string x) (.slice A n a) (.slice K m c) hX hz
  exact ⟨b, ⟨_, _, _, _, _, _, _, _, _, hs.1, hT.frame (fun k hk hl => hs.2.block k hl hk)⟩, hb, hw.trans hs.2 (fun i _ h => h)⟩

set_option maxHeartbeats 12800000 in
theorem prints5 (va vb : Value) (z2 z3 : Int) (w : World) (hk0 : Wo w va) (hk1 : Wo w vb) : Calls Try.prog 5 #[va, vb, .int .i64 z2, .int .i64 z3] w fun e w' => e = .returned (.bool true) ∧ Below w.heap.size w w' := by
  obtain ⟨A0, n0, c0, A1, n1, c1, A2, n2, c2, A3, n3, c3, f0, f1, f2, f3, rfl, hi0, hi1, hi2, hi3⟩ := hk0
  obtain ⟨A4, n4, c4, A5, n5, c5, A6, n6, c6, A7, n7, c7, f4, f5, f6, f7, rfl, hi4, hi5, hi6, hi7⟩ := hk1
  have I0 := Lib.hid hi0
  have I1 := Lib.hid hi1
  have I2 := Lib.hid hi2
  have I3 := Lib.hid hi3
  have I4 := Lib.hid hi4
  have I5 := Lib.hid hi5
  have I6 := Lib.hid hi6
  have I7 := Lib.hid hi7
  clear hi0 hi1 hi2 hi3 hi4 hi5 hi6 hi7
  go_enter Try.func5, Try.ntmps5
  go_upto_region 1 with fail
  have HB := Lib.hid (((Below.refl w.heap.size w).alloc (Nat.le_refl _) (.cells #[.slice A0 n0 c0, .slice A1 n1 c1, .slice A2 n2 c2, .slice A3 n3 c3] 34 (0, 0))).alloc (by simp) (.cells #[.slice A4 n4 c4, .slice A5 n5 c5, .slice A6 n6 c6, .slice A7 n7 c7] 34 (0, 0)))
  have X1 := Lib.hid (blk_alloc (blk_new w (.cells #[.slice A0 n0 c0, .slice A1 n1 c1, .slice A2 n2 c2, .slice A3 n3 c3] 34 (0, 0))) (.cells #[.slice A4 n4 c4, .slice A5 n5 c5, .slice A6 n6 c6, .slice A7 n7 c7] 34 (0, 0)))
  have X2 := Lib.hid (blk_new1 w (.cells #[.slice A0 n0 c0, .slice A1 n1 c1, .slice A2 n2 c2, .slice A3 n3 c3] 34 (0, 0)) (.cells #[.slice A4 n4 c4, .slice A5 n5 c5, .slice A6 n6 c6, .slice A7 n7 c7] 34 (0, 0)))
  generalize (w.alloc (.cells #[.slice A0 n0 c0, .slice A1 n1 c1, .slice A2 n2 c2, .slice A3 n3 c3] 34 (0, 0))).alloc (.cells #[.slice A4 n4 c4, .slice A5 n5 c5, .slice A6 n6 c6, .slice A7 n7 c7] 34 (0, 0)) = w5 at *
  have KS : Hid (∀ w' : World, Below w5.heap.size w5 w' → (w'.cell? ⟨w.heap.size, 0, none⟩ = some (.slice A0 n0 c0) ∧ w'.cell? ⟨w.heap.size, 1, none⟩ = some (.slice A1 n1 c1) ∧ w'.cell? ⟨w.heap.size, 2, none⟩ = some (.slice A2 n2 c2) ∧ w'.cell? ⟨w.heap.size, 3, none⟩ = some (.slice A3 n3 c3)) ∧ w'.cell? ⟨w.heap.size + 1, 0, none⟩ = some (.slice A4 n4 c4) ∧ w'.cell? ⟨w.heap.size + 1, 1, none⟩ = some (.slice A5 n5 c5) ∧ w'.cell? ⟨w.heap.size + 1, 2, none⟩ = some (.slice A6 n6 c6) ∧ w'.cell? ⟨w.heap.size + 1, 3, none⟩ = some (.slice A7 n7 c7)) := Lib.hid (fun w' hk => ⟨cells4_at (blk_call X1.out hk), cells4_at (blk_call X2.out hk)⟩)
  go_cut [9, 10] from 19 (fun v7 v8 wz => ∃ N M t u, v7 = .pointer (some ⟨N, 0, none⟩) ∧ v8 = .pointer (some ⟨M, 0, none⟩) ∧ Two w5.heap.size N M t u wz ∧ Below w5.heap.size w5 wz)
  case first =>
    have hSd : (fun w' : World => (w'.cell? ⟨w.heap.size, 0, none⟩ = some (.slice A0 n0 c0) ∧ w'.cell? ⟨w.heap.size, 1, none⟩ = some (.slice A1 n1 c1) ∧ w'.cell? ⟨w.heap.size, 2, none⟩ = some (.slice A2 n2 c2) ∧ w'.cell? ⟨w.heap.size, 3, none⟩ = some (.slice A3 n3 c3)) ∧ w'.cell? ⟨w.heap.size + 1, 0, none⟩ = some (.slice A4 n4 c4) ∧ w'.cell? ⟨w.heap.size + 1, 1, none⟩ = some (.slice A5 n5 c5) ∧ w'.cell? ⟨w.heap.size + 1, 2, none⟩ = some (.slice A6 n6 c6) ∧ w'.cell? ⟨w.heap.size + 1, 3, none⟩ = some (.slice A7 n7 c7)) w5.drew := KS.out _ ((Below.refl _ _).drew)
    refine wp_region_sink (S := fun w' : World => (w'.cell? ⟨w.heap.size, 0, none⟩ = some (.slice A0 n0 c0) ∧ w'.cell? ⟨w.heap.size, 1, none⟩ = some (.slice A1 n1 c1) ∧ w'.cell? ⟨w.heap.size, 2, none⟩ = some (.slice A2 n2 c2) ∧ w'.cell? ⟨w.heap.size, 3, none⟩ = some (.slice A3 n3 c3)) ∧ w'.cell? ⟨w.heap.size + 1, 0, none⟩ = some (.slice A4 n4 c4) ∧ w'.cell? ⟨w.heap.size + 1, 1, none⟩ = some (.slice A5 n5 c5) ∧ w'.cell? ⟨w.heap.size + 1, 2, none⟩ = some (.slice A6 n6 c6) ∧ w'.cell? ⟨w.heap.size + 1, 3, none⟩ = some (.slice A7 n7 c7)) (n := 1000) (by kernel_rfl) ?_
    change wpSink _ _ _ _ _ 1000 8 _ _ _
    refine sink_take0 (i := 0) (v := ?_) rfl (by kernel_rfl) (by decide) (by kernel_rfl) (by kernel_rfl) (fun _ _ _ h => h) (Or.inl ⟨by rfl, ?_⟩) hSd ?_
    rotate_left
    · intro wz hSw
      (try dsimp only at hSw)
      obtain ⟨⟨s0, s1, s2, s3⟩, s4, s5, s6, s7⟩ := hSw
      go_simp
      (try with_reducible rfl)
    try simp only [Act.put]
    refine sink_take0 (i := 2) (v := ?_) rfl (by kernel_rfl) (by decide) (by kernel_rfl) (by kernel_rfl) (fun _ _ _ h => h) (Or.inl ⟨by rfl, ?_⟩) hSd ?_
    rotate_left
    · intro wz hSw
      (try dsimp only at hSw)
      obtain ⟨⟨s0, s1, s2, s3⟩, s4, s5, s6, s7⟩ := hSw
      go_simp
      (try with_reducible rfl)
    try simp only [Act.put]
    refine sink_inv (I := fun ls a W => ∃ (b1 b3 b4 b5 b6 b7 : Bool) (t18 t20 t7 t8 : Value), ls = #[true, b1, true, b3, b4, b5, b6, b7] ∧ a = (⟨#[.agg #[.slice A0 n0 c0, .slice A1 n1 c1, .slice A2 n2 c2, .slice A3 n3 c3], .agg #[.slice A4 n4 c4, .slice A5 n5 c5, .slice A6 n6 c6, .slice A7 n7 c7], .int .i64 z2, .int .i64 z3, .pointer (some ⟨w.heap.size, 0, none⟩), .pointer (some ⟨w.heap.size + 1, 0, none⟩), undef, undef, .bool false, t7, t8, undef, undef, undef, undef, undef, undef, undef, undef, .agg #[.slice A0 n0 c0, .slice A1 n1 c1, .slice A2 n2 c2, .slice A3 n3 c3], t18, .agg #[.slice A4 n4 c4, .slice A5 n5 c5, .slice A6 n6 c6, .slice A7 n7 c7], t20, undef, undef, undef, undef, undef, undef, undef, undef, undef, undef, undef, undef, undef, undef, undef, undef, undef, undef, undef, undef, undef, undef, undef, undef, undef, undef, undef, undef, undef, undef, undef, undef, undef, undef, undef, undef, undef, undef, undef, undef, undef, undef, undef, undef, undef, undef, undef, undef, undef, undef, undef, undef, undef, undef, undef, undef, undef, undef, undef, undef, undef, undef, undef, undef, undef, undef, undef, undef, undef, undef, undef, undef, undef, undef, undef, undef, undef, undef, undef, undef, undef, undef, undef, undef, undef, undef, undef, undef, undef, undef, undef, undef, undef, undef, undef, undef, undef, undef, undef, undef, undef, undef, undef, undef, undef, undef, undef, undef, undef, undef, undef, undef, undef, undef, undef, undef, undef, undef, undef], []⟩ : Act) ∧ PI w5 b1 b3 b4 b5 b6 b7 t18 t20 t7 t8 W) (by kernel_rfl) ?_ ?_ ?_ 6 _ _ _ (by decide) ?_
    · rintro ls a W ⟨b1, b3, b4, b5, b6, b7, t18, t20, t7, t8, rfl, rfl, hg⟩
      rfl
    · rintro i hi ls a W ⟨b1, b3, b4, b5, b6, b7, t18, t20, t7, t8, rfl, rfl, hg⟩ hr
      have hi8 : i < 8 := hi
      have HG := Lib.hid hg
      have HR := Lib.hid hr
      clear hg hr hi
      obtain rfl | rfl | rfl | rfl | rfl | rfl | rfl | rfl : i = 0 ∨ i = 2 ∨ i = 1 ∨ i = 3 ∨ i = 4 ∨ i = 5 ∨ i = 6 ∨ i = 7 := by omega
      · cases (show true = false from ready_un HR.out)
      · cases (show true = false from ready_un HR.out)
      · obtain rfl : b1 = false := ready_un HR.out
        refine wpOp_step rfl (fun K' hK => ?_)
        have HK := Lib.hid hK
        clear hK
        rw [if_pos (by rfl)]
        go_simp
        have HZ := Lib.hid (HB.out.trans (HG.out.bel.mono HB.out.size))
        refine (tree12 _ _ _ _ _ _ _ _ _ _ _ _ f0 f1 f2 f3 _ (I0.out.call HZ.out) (I1.out.call HZ.out) (I2.out.call HZ.out) (I3.out.call HZ.out)).mono ?_
        rintro e w' ⟨v, t, rfl, g1, g2, g3⟩
        have hn := pi1 HG.out g1 g2 g3
        exact HK.out _ _ ⟨Or.inr (KS.out _ hn.bel), _, _, _, _, _, _, _, _, _, _, rfl, rfl, hn⟩
      · obtain rfl : b3 = false := ready_un HR.out
        refine wpOp_step rfl (fun K' hK => ?_)
        have HK := Lib.hid hK
        clear hK
        rw [if_pos (by rfl)]
        go_simp
        have HZ := Lib.hid (HB.out.trans (HG.out.bel.mono HB.out.size))
        refine (tree12 _ _ _ _ _ _ _ _ _ _ _ _ f4 f5 f6 f7 _ (I4.out.call HZ.out) (I5.out.call HZ.out) (I6.out.call HZ.out) (I7.out.call HZ.out)).mono ?_
        rintro e w' ⟨v, t, rfl, g1, g2, g3⟩
        have hn := pi3 HG.out g1 g2 g3
        exact HK.out _ _ ⟨Or.inr (KS.out _ hn.bel), _, _, _, _, _, _, _, _, _, _, rfl, rfl, hn⟩
      · obtain rfl : b4 = false := ready_un HR.out
        refine wpOp_step rfl (fun K' hK => ?_)
        have HK := Lib.hid hK
        clear hK
        rw [if_pos (by rfl)]
        go_simp
        have hn := pi4 HG.out
        exact HK.out _ _ ⟨Or.inr (KS.out _ hn.bel), _, _, _, _, _, _, _, _, _, _, rfl, rfl, hn⟩
      · obtain rfl : b5 = false := ready_un HR.out
        refine wpOp_step rfl (fun K' hK => ?_)
        have HK := Lib.hid hK
        clear hK
        rw [if_pos (by rfl)]
        go_simp
        have hn := pi5 HG.out
        exact HK.out _ _ ⟨Or.inr (KS.out _ hn.bel), _, _, _, _, _, _, _, _, _, _, rfl, rfl, hn⟩
      · obtain rfl : b6 = false := ready_un HR.out
        obtain rfl : b1 = true := ready_dep (j := 1) (by kernel_rfl) HR.out
        obtain rfl : b4 = true := ready_dep (j := 4) (by kernel_rfl) HR.out
        obtain ⟨N, hN, rfl, hS⟩ := HG.out.f4 rfl
        obtain ⟨g, k, x, A, n, a, K, m, c, rfl⟩ := (HG.out.f1 rfl).shape
        have HN := Lib.hid hN
        have HNB := Lib.hid (hS.1 rfl)
        clear hN hS
        obtain ⟨r0, r1, r2, r3, r4⟩ := cells5_at HNB.out
        have q0 := blk_frozen HNB.out 0
        have q1 := blk_frozen HNB.out 1
        have q2 := blk_frozen HNB.out 2
        have q3 := blk_frozen HNB.out 3
        have q4 := blk_frozen HNB.out 4
        unfold ptr
        refine wpOp_step rfl (fun K' hK => ?_)
        have HK := Lib.hid hK
        clear hK
        rw [if_pos (by rfl)]
        go_simp
        have hn := pi6 HG.out HN.out HNB.out
        unfold ptr at hn
        exact HK.out _ _ ⟨Or.inr (KS.out _ hn.bel), _, _, _, _, _, _, _, _, _, _, rfl, rfl, hn⟩
      · obtain rfl : b7 = false := ready_un HR.out
        obtain rfl : b3 = true := ready_dep (j := 3) (by kernel_rfl) HR.out
        obtain rfl : b5 = true := ready_dep (j := 5) (by kernel_rfl) HR.out
        obtain ⟨N, hN, rfl, hS⟩ := HG.out.f5 rfl
        obtain ⟨g, k, x, A, n, a, K, m, c, rfl⟩ := (HG.out.f3 rfl).shape
        have HN := Lib.hid hN
        have HNB := Lib.hid (hS.1 rfl)
        clear hN hS
        obtain ⟨r0, r1, r2, r3, r4⟩ := cells5_at HNB.out
        have q0 := blk_frozen HNB.out 0
        have q1 := blk_frozen HNB.out 1
        have q2 := blk_frozen HNB.out 2
        have q3 := blk_frozen HNB.out 3
        have q4 := blk_frozen HNB.out 4
        unfold ptr
        refine wpOp_step rfl (fun K' hK => ?_)
        have HK := Lib.hid hK
        clear hK
        rw [if_pos (by rfl)]
        go_simp
        have hn := pi7 HG.out HN.out HNB.out
        unfold ptr at hn
        exact HK.out _ _ ⟨Or.inr (KS.out _ hn.bel), _, _, _, _, _, _, _, _, _, _, rfl, rfl, hn⟩
    · rintro ls a W ⟨b1, b3, b4, b5, b6, b7, t18, t20, t7, t8, rfl, rfl, hg⟩ hall
      obtain rfl : b1 = true := hall 1 (by decide)
      obtain rfl : b3 = true := hall 3 (by decide)
      obtain rfl : b4 = true := hall 4 (by decide)
      obtain rfl : b5 = true := hall 5 (by decide)
      obtain rfl : b6 = true := hall 6 (by decide)
      obtain rfl : b7 = true := hall 7 (by decide)
      have hend := pi_end hg
      clear hg hall
      go_wp2_with fail
      go_meet
      exact hend
    · exact ⟨false, false, false, false, false, false, _, _, _, _, rfl, rfl, pi_start _ _ _ _ _ ((Below.refl _ _).drew)⟩
  case rest =>
    obtain ⟨N, M, t, u, rfl, rfl, hz, hzb⟩ := hcut
    have TW := Lib.hid hz
    have BZ := Lib.hid (HB.out.trans (hzb.mono HB.out.size))
    have B5Z := Lib.hid HB.out.size
    clear hz hzb HB X1 X2 KS I0 I1 I2 I3 I4 I5 I6 I7
    obtain ⟨g, k, x, A, n, a, K, m, c, hX, hT⟩ := TW.out.t1
    obtain ⟨g2, k2, x2, A9, n9, a9, K9, m9, c9, hX2, hT2⟩ := TW.out.t2
    have WT := Lib.hid TW.out.wt
    have WU := Lib.hid TW.out.wu
    have XN := Lib.hid hX
    have XM := Lib.hid hX2
    have TN := Lib.hid hT
    have TM := Lib.hid hT2
    have SH := Lib.hid (fun W (hW : Below wc.heap.size wc W) => And.intro (cells5_at (blk_call XN.out hW)) (cells5_at (blk_call XM.out hW)))
    obtain ⟨sa, hsa⟩ : ∃ sa, pnT t = sa := ⟨_, rfl⟩
    obtain ⟨sb, hsb⟩ : ∃ sb, pnT u = sb := ⟨_, rfl⟩
    have SA := Lib.hid hsa
    have SB := Lib.hid hsb
    have na : sa.size ≠ 0 := by rw [← hsa]; exact pnT_pos WT.out.rt
    have nb : sb.size ≠ 0 := by rw [← hsb]; exact pnT_pos WU.out.rt
    have qa : (sa.toList == []) = false := by rw [size_nil]; exact decide_eq_false na
    have qb : (sb.toList == []) = false := by rw [size_nil]; exact decide_eq_false nb
    have qa2 : sa.toList.isEmpty = false := by rw [size_emp]; exact decide_eq_false na
    have qb2 : sb.toList.isEmpty = false := by rw [size_emp]; exact decide_eq_false nb
    have qe : (sa.toList == sb.toList) = trB t u := by rw [← hsa, ← hsb]; exact pnT_eq WT.out WU.out
    clear hX hT hX2 hT2 hsa hsb na nb TW
    go_upto_region 2 with fail
    go_cut [11, 12] from 19 (fun v11 v12 wz => v11 = .string sa ∧ v12 = .string sb ∧ Below wc.heap.size wc wz)
    case first =>
      have P0 : Hid (Below wc.heap.size wc wc.drew) := Lib.hid ((Below.refl _ _).drew)
      refine wp_region_pre 5 (0 :: 2 :: []) 4 (fun W => Below wc.heap.size wc W) (by kernel_rfl) (by kernel_rfl) (by decide) (by kernel_rfl) (fun d _ _ _ _ h => by cases d <;> exact h) (P0.out) ?_
      refine pre_q (d := some 23) (v := ?_) rfl rfl (Or.inl ⟨by rfl, ?_⟩) ?_
      rotate_left
      · intro wz hSw
        obtain ⟨⟨a0, a1, a2, a3, a4⟩, ⟨b0, b1, b2, b3, b4⟩⟩ := SH.out wz hSw
        go_simp
        (try with_reducible rfl)
      try simp only [Act.put, List.setIfInBounds_toArray, List.set_cons_zero, List.set_cons_succ]
      refine pre_q (d := some 25) (v := ?_) rfl rfl (Or.inl ⟨by rfl, ?_⟩) ?_
      rotate_left
      · intro wz hSw
        obtain ⟨⟨a0, a1, a2, a3, a4⟩, ⟨b0, b1, b2, b3, b4⟩⟩ := SH.out wz hSw
        go_simp
        (try with_reducible rfl)
      try simp only [Act.put, List.setIfInBounds_toArray, List.set_cons_zero, List.set_cons_succ]
      refine pre_nil ?_
      refine sinkw_one (i := 1) (by kernel_rfl) ?_
      refine wpOp_step rfl (fun K' hK => ?_)
      have HK := Lib.hid hK
      clear hK
      rw [if_pos (by rfl)]
      go_simp
      refine (print8 _ t _ (TN.out.call P0.out) WT.out.nds (by have := WT.out.len; omega)).mono ?_
      rintro e x1 ⟨rfl, hb⟩
      have xP1 := Lib.hid (P0.out.trans (hb.mono P0.out.size))
      clear hb
      rw [SA.out]
      refine HK.out _ _ ⟨Or.inr xP1.out, ?_⟩
      clear HK
      try change SinkW _ _ _ _ _ _ _ _ (Act.put _ (some 24) _) _
      try simp only [Act.put, List.setIfInBounds_toArray, List.set_cons_zero, List.set_cons_succ]
      refine sinkw_one (i := 3) (by kernel_rfl) ?_
      refine wpOp_step rfl (fun K' hK => ?_)
      have HK := Lib.hid hK
      clear hK
      rw [if_pos (by rfl)]
      go_simp
      refine (print8 _ u _ (TM.out.call xP1.out) WU.out.nds (by have := WU.out.len; omega)).mono ?_
      rintro e x2 ⟨rfl, hb⟩
      have xP2 := Lib.hid (xP1.out.trans (hb.mono xP1.out.size))
      clear hb
      rw [SB.out]
      refine HK.out _ _ ⟨Or.inr xP2.out, ?_⟩
      clear HK
      try change SinkW _ _ _ _ _ _ _ _ (Act.put _ (some 26) _) _
      try simp only [Act.put, List.setIfInBounds_toArray, List.set_cons_zero, List.set_cons_succ]
      refine sinkw_one (i := 4) (by kernel_rfl) ?_
      refine wpOp_step rfl (fun K' hK => ?_)
      have HK := Lib.hid hK
      clear hK
      rw [if_pos (by rfl)]
      go_simp
      refine HK.out _ _ ⟨Or.inr xP2.out, ?_⟩
      clear HK
      try change SinkW _ _ _ _ _ _ _ _ (Act.put _ (some 11) _) _
      try simp only [Act.put, List.setIfInBounds_toArray, List.set_cons_zero, List.set_cons_succ]
      refine sinkw_one (i := 5) (by kernel_rfl) ?_
      refine wpOp_step rfl (fun K' hK => ?_)
      have HK := Lib.hid hK
      clear hK
      rw [if_pos (by rfl)]
      go_simp
      refine HK.out _ _ ⟨Or.inr xP2.out, ?_⟩
      clear HK
      try change SinkW _ _ _ _ _ _ _ _ (Act.put _ (some 12) _) _
      try simp only [Act.put, List.setIfInBounds_toArray, List.set_cons_zero, List.set_cons_succ]
      refine sinkw_done (by kernel_rfl) ?_
      have PE := xP2.out
      clear SH
      go_wp2_with fail
      go_meet
      exact ⟨rfl, rfl, PE⟩
    case rest =>
      obtain ⟨rfl, rfl, hz⟩ := hcut
      have XN2 := Lib.hid (blk_call XN.out hz)
      have XM2 := Lib.hid (blk_call XM.out hz)
      have TN2 := Lib.hid (TN.out.call hz)
      have TM2 := Lib.hid (TM.out.call hz)
      have B2 := Lib.hid (BZ.out.trans (hz.mono BZ.out.size))
      obtain ⟨r0, r1, r2, r3, r4⟩ := cells5_at XN2.out
      obtain ⟨s0, s1, s2, s3, s4⟩ := cells5_at XM2.out
      clear hz SH XN XM TN TM BZ B5Z
      go_wp2_with fail
      refine (trees15 (tsz t) _ _ t u _ (Nat.le_refl _) TN2.out TM2.out).mono ?_
      rintro e w6 ⟨rfl, hb6⟩
      have B6 := Lib.hid hb6
      clear hb6 r0 r1 r2 r3 r4 s0 s1 s2 s3 s4
      have XN3 := Lib.hid (blk_call XN2.out B6.out)
      have TN3 := Lib.hid (TN2.out.call B6.out)
      have B3 := Lib.hid (B2.out.trans (B6.out.mono B2.out.size))
      generalize trB t u = bb at *
      obtain ⟨r0, r1, r2, r3, r4⟩ := cells5_at XN3.out
      go_upto_block 0 with fail
      obtain ⟨hgt, hmk, KT⟩ := TN3.out.kid
      have HG := Lib.hid hgt
      have HM := Lib.hid hmk
      replace KT := Lib.hid KT
      have hm13 : m ≤ 13 := by
        have h1 := kids_cnt t.kids
        have h2 : t.cnt = 1 + cntL t.kids := by rw [Tr.eta t, cnt_mk]; rfl
        have h3 := WT.out.2.1
        omega
      clear hgt hmk
      obtain ⟨ks, hks⟩ : ∃ ks, st (prtL t.kids) = ks := ⟨_, rfl⟩
      have KS := Lib.hid hks
      clear hks
      go_cut [13, 15] from 27 (fun v13 v15 wz => v13 = .string ks ∧ Below w6.heap.size w6 wz)
      case first =>
        go_wp2_with fail
        clear r0 r1 r2 r3 r4
        go_loopw [13, 45] (fun p13 p45 wr => ∃ j : Nat, j ≤ m ∧ p13 = .string (st (prtL (t.kids.take j))) ∧ p45 = .int .i64 j ∧ Hid (Below w6.heap.size w6 wr)) (fun _ p _ => m - (intOf p).toNat)
        case atStart => exact ⟨0, Nat.zero_le _, rfl, rfl, Below.refl _ _⟩
        case round =>
          obtain ⟨j, hj, rfl, rfl, BW⟩ := hrel
          obtain ⟨sk, hsk⟩ : ∃ sk, st (prtL (t.kids.take j)) = sk := ⟨_, rfl⟩
          rw [hsk]
          have SK := Lib.hid hsk
          have hsl : sk.size ≤ 1300 := by
            have h1 := WT.out.parts.2.1
            have h2 := prtL_take t.kids j
            rw [← hsk, st_size]
            omega
          clear hsk
          by_cases hlt : j < m
          · have d0 : (j : Int) < (m : Int) := by omega
            have HLT := Lib.hid hlt
            obtain ⟨b5, o5, g5, k5, x5, A5x, n5x, a5, K5, m5, c5x, rfl, k0, k1, k2, k3, k4, hT5⟩ := KT.out j hlt
            have hm5 : t.kids.getD j tr0 ∈ t.kids := by
              have := HM.out
              simp [List.getD, show j < t.kids.length by omega]
            have KD := Lib.hid (WT.out.kid hm5)
            have NX := Lib.hid (prt_next t.kids j (by have := HM.out; omega))
            have T5 := Lib.hid (hT5.call BW.out)
            clear hT5 hm5
            generalize t.kids.getD j tr0 = kj at *
            have g : ∀ (p : Addr) (v : Value), w6.cell? p = some v → wr.cell? p = some v := fun p v hc => by
              rw [BW.out.cell (World.block_lt_of_cell? w6 _ hc)]
              exact hc
            replace k0 := g _ _ k0
            replace k1 := g _ _ k1
            replace k2 := g _ _ k2
            replace k3 := g _ _ k3
            replace k4 := g _ _ k4
            clear g
            go_wp2_with fail
            have TB := Lib.hid (T5.out.call ((Below.refl _ wr).alloc (Nat.le_refl _) (.cells #[.string g5, .string k5, .string x5, .slice A5x n5x a5, .slice K5 m5 c5x] 27 (0, 0))))
            have BX := Lib.hid (BW.out.alloc BW.out.size (.cells #[.string g5, .string k5, .string x5, .slice A5x n5x a5, .slice K5 m5 c5x] 27 (0, 0)))
            clear k0 k1 k2 k3 k4 T5 BW
            generalize wr.alloc _ = w7 at *
            refine (print8 _ kj _ TB.out KD.out.1 (by have := KD.out.2.2; omega)).mono ?_
            rintro e w8 ⟨rfl, hb8⟩
            have B8 := Lib.hid (BX.out.trans (hb8.mono BX.out.size))
            clear hb8 BX TB
            obtain ⟨sj, hsj⟩ : ∃ sj, pnT kj = sj := ⟨_, rfl⟩
            rw [hsj]
            have hjl : sj.size ≤ 1300 := by
              rw [← hsj, pnT_rt KD.out.2.1, st_size]
              exact KD.out.2.2
            have SN : Hid (st (prtL (t.kids.take (j + 1))) = sk ++ sj) := by
              rw [NX.out, st_append, SK.out, ← pnT_rt KD.out.2.1, hsj]
              exact Lib.hid rfl
            clear hsj
            go_wp2_with fail
            go_roundw
            case rel => exact ⟨j + 1, by have := HLT.out; omega, by rw [SN.out], by go_num, B8⟩
            case measure =>
              have := HLT.out
              simp [intOf]
              omega
          · obtain rfl : j = m := by omega
            have hE : sk = ks := by rw [← SK.out, ← KS.out, HM.out, List.take_length]
            go_wp2_with fail
            go_meet
            exact ⟨by rw [hE], BW.out⟩
      case rest =>
        obtain ⟨rfl, hz⟩ := hcut
        have BC := Lib.hid hz
        clear hz
        have XN4 := Lib.hid (blk_call XN3.out BC.out)
        obtain ⟨r0, r1, r2, r3, r4⟩ := cells5_at XN4.out
        go_upto_region 11 with fail
        go_cut [77] from 78 (fun v77 wz => v77 = .bool false ∧ Below wc.heap.size wc wz)
        case first =>
          have qg : (g.toList == []) = false := by rw [size_nil, HG.out]; exact decide_eq_false WT.out.2.2.2
          have qg2 : g.toList.isEmpty = false := by rw [size_emp, HG.out]; exact decide_eq_false WT.out.2.2.2
          obtain ⟨nn, hn1, hn2⟩ := prt_end WT.out.2.2.2
          have hs1 : sa.size = nn + ks.size + 3 := by rw [← SA.out, pnT_rt WT.out.rt, st_size, ← KS.out, st_size]; exact hn2
          have hs2 : ks.size ≤ 1300 := by rw [← KS.out, st_size]; exact WT.out.parts.2.1
          have hs3 : sa.size ≤ 1300 := by rw [← SA.out, pnT_rt WT.out.rt, st_size]; exact WT.out.len
          have sl : sa.extract nn sa.size = ks ++ ⟨#[60, 47, 62]⟩ := by
            apply bs_inj
            rw [bs_tail, ← SA.out, pnT_bs WT.out.rt, bs_append, ← KS.out, bs_st (prtL_inR _), hn1, List.drop_left' (by rw [List.length_take]; omega)]
            rfl
          have j3 : decide ((sa.size : Int) < (ks.size : Int) + 3) = false := decide_eq_false (by omega)
          have j1 : (ks.size : Int) + 3 ≤ (sa.size : Int) := by omega
          have i1 : IntKind.i64.wrap ((ks.size : Int) + 3) = (ks.size : Int) + 3 := IntWalk.i64_in _ (by omega)
          have i2 : IntKind.i64.wrap ((sa.size : Int) - 3) = (sa.size : Int) - 3 := IntWalk.i64_in _ (by omega)
          have i3 : IntKind.i64.wrap ((sa.size : Int) - 3 - (ks.size : Int)) = (nn : Int) := by rw [IntWalk.i64_in _ (by omega)]; omega
          have j2 : (nn : Int) ≤ (sa.size : Int) := by omega
          have n9 : ¬ 9223372036854775807 < ks.size + 3 := by omega
          clear hn1 hn2 hs1 hs2 hs3
          go_wp2_with fail
          go_meet
          exact ⟨rfl, Below.refl _ _⟩
        case rest =>
          obtain ⟨rfl, hz⟩ := hcut
          have XN5 := Lib.hid (blk_call XN4.out hz)
          have TN5 := Lib.hid ((TN3.out.call BC.out).call hz)
          have B5 := Lib.hid ((B3.out.trans (BC.out.mono B3.out.size)).trans (hz.mono (Nat.le_trans B3.out.size BC.out.size)))
          clear hz KT qa qb qa2 qb2 qe r0 r1 r2 r3 r4
          go_wp2_with fail
          refine (within17 z3 9 _ (by omega)).mono ?_
          rintro e w' ⟨y3, hy3, rfl, hw⟩
          obtain rfl : wc = w' := hw.symm
          clear hw
          obtain ⟨yn, hyn⟩ : ∃ yn : Nat, 1 ≤ yn ∧ yn ≤ 10 ∧ yn = 1 + y3 := ⟨1 + y3, by omega, by omega, rfl⟩
          have i1 : IntKind.i64.wrap (1 + (y3 : Int)) = (yn : Int) := by rw [IntWalk.i64_in _ (by omega)]; omega
          have Y1 := Lib.hid hyn.1
          have Y10 := Lib.hid hyn.2.1
          clear hyn
          obtain ⟨r0, r1, r2, r3, r4⟩ := cells5_at XN5.out
          go_wp2_with fail
          refine (copy13 13 _ _ t _ WT.out.2.1 TN5.out).mono ?_
          rintro e w2 ⟨av, kv, vs, rfl, hat, hal, hro, hsep, hkl, hb2⟩
          have TC := hro.tree (tag := t.tag) (key := t.key) (text := t.text) (fun k hk => hk) ⟨hal, hkl⟩ hat.1 hat.2
          rw [← Tr.eta t] at TC
          replace TC := Lib.hid TC
          obtain ⟨K6, c6x, hkv⟩ := owns_shape hro.own
          obtain ⟨A6x, a6, hav, _, _, _⟩ := hat.1
          obtain ⟨l6, hl6⟩ : ∃ l6, t.attrs.length = l6 := ⟨_, rfl⟩
          obtain ⟨l7, hl7⟩ : ∃ l7, vs.length = l7 := ⟨_, rfl⟩
          rw [hl6] at hav
          rw [hl7] at hkv
          have B6' := Lib.hid (B5.out.trans (hb2.mono B5.out.size))
          clear hat hal hro hsep hkl hl6 hl7 hb2 r0 r1 r2 r3 r4
          subst hav hkv
          go_upto_region 15 with fail
          have xz := blk_new w2 (.cells #[.string t.tag, .string t.key, .string t.text, .slice A6x l6 a6, .slice K6 l7 c6x] 27 (0, 0))
          have hbz := (Below.refl w2.heap.size w2).alloc (Nat.le_refl _) (.cells #[.string t.tag, .string t.key, .string t.text, .slice A6x l6 a6, .slice K6 l7 c6x] 27 (0, 0))
          have TZ := TC.out.call hbz
          have TC3 : Hid (TrW (fun k => k ≠ w2.heap.size) (w2.alloc (.cells #[.string t.tag, .string t.key, .string t.text, .slice A6x l6 a6, .slice K6 l7 c6x] 27 (0, 0))) _ t) := Lib.hid ((TC.out.mono (q := fun k => k ≠ w2.heap.size) (fun k _ hk => by omega)).call hbz)
          have B7 := Lib.hid (B6'.out.trans (hbz.mono B6'.out.size))
          have ZW := Lib.hid B6'.out.size
          generalize w2.alloc _ = w9 at *
          generalize w2.heap.size = zd at *
          have XZ := Lib.hid xz
          clear xz hbz TZ TC TN5 XN5
          go_wp2_with fail
          refine (within17 z2 7 _ (by omega)).mono ?_
          rintro e w' ⟨y2, hy2, rfl, hw⟩
          obtain rfl : w9 = w' := hw.symm
          clear hw
          go_upto_block 2 with fail
          go_cut [18] from 84 (fun v18 wz => Swt zd w9 wz)
          case first =>
            obtain ⟨r0, r1, r2, r3, r4⟩ := cells5_at XZ.out
            have f0 := blk_frozen XZ.out 0
            have f1 := blk_frozen XZ.out 1
            have f2 := blk_frozen XZ.out 2
            have f3 := blk_frozen XZ.out 3
            have f4 := blk_frozen XZ.out 4
            have hcs : y2 = 0 ∨ y2 = 1 ∨ y2 = 2 ∨ y2 = 3 ∨ y2 = 4 ∨ y2 = 5 ∨ y2 = 6 ∨ y2 = 7 := by omega
            clear hy2
            rcases hcs with rfl | rfl | rfl | rfl | rfl | rfl | rfl | rfl
            · go_wp2_with fail
              go_meet
              exact swt_0 XZ.out TC3.out WT.out
            · go_wp2_with fail
              go_meet
              exact swt_1 XZ.out TC3.out WT.out
            · obtain ⟨q, hq⟩ : ∃ q : Nat, q = 64 + yn := ⟨_, rfl⟩
              have hq2 : 64 < q ∧ q ≤ 1000 := by have := Y1.out; have := Y10.out; omega
              have iq : IntKind.i64.wrap (64 + (yn : Int)) = (q : Int) := by rw [IntWalk.i64_in _ (by omega)]; omega
              have mq := mkB w9 q hq2.2
              have mt := mk_text w9 q
              have xb := blk_alloc XZ.out (.cells (rowB q) 5 (0, 0))
              have XB := Lib.hid xb
              have HQ := Lib.hid hq2
              clear hq hq2 f0 f1 f2 f3 f4 r0 r1 r2 r3 r4
              have f0 := blk_frozen xb 0
              have f1 := blk_frozen xb 1
              have f2 := blk_frozen xb 2
              have f3 := blk_frozen xb 3
              have f4 := blk_frozen xb 4
              obtain ⟨r0, r1, r2, r3, r4⟩ := cells5_at xb
              clear xb
              go_wp2_with fail
              go_meet
              exact swt_whole XB.out rfl ((Kp.refl _ w9).alloc _) (trw_leaf (at_nil _ _) (by simp)) (bad2 (by rw [zerT_size]; exact HQ.out.1) (by rw [zerT_size]; exact HQ.out.2))
            · go_wp2_with fail
              go_meet
              exact swt_whole XZ.out rfl (Kp.refl _ _) (trw_leaf (at_nil _ _) (by simp)) bad3
            · have xb := blk_alloc XZ.out (.cells #[.string ⟨#[120]⟩, .string ⟨#[]⟩, .string ⟨#[120]⟩, .string ⟨#[]⟩] 23 (0, 0))
              have XA := Lib.hid (blk_new w9 (.cells #[.string ⟨#[120]⟩, .string ⟨#[]⟩, .string ⟨#[120]⟩, .string ⟨#[]⟩] 23 (0, 0)))
              have XB := Lib.hid xb
              have ZL := Lib.hid (blk_lt XZ.out)
              clear f0 f1 f2 f3 f4 r0 r1 r2 r3 r4
              have f0 := blk_frozen xb 0
              have f1 := blk_frozen xb 1
              have f2 := blk_frozen xb 2
              have f3 := blk_frozen xb 3
              have f4 := blk_frozen xb 4
              obtain ⟨r0, r1, r2, r3, r4⟩ := cells5_at xb
              clear xb
              go_wp2_with fail
              go_meet
              exact swt_whole XB.out rfl ((Kp.refl _ w9).alloc _) (trw_leaf (at_two 2 XA.out (show w9.heap.size ≠ zd by have := ZL.out; omega) (Nat.le_refl 2)) (by simp)) bad4
            · obtain ⟨q, hq⟩ : ∃ q : Nat, q = 24 + yn := ⟨_, rfl⟩
              have hq2 : 24 < q ∧ q ≤ 1000 := by have := Y1.out; have := Y10.out; omega
              have iq : IntKind.i64.wrap (24 + (yn : Int)) = (q : Int) := by rw [IntWalk.i64_in _ (by omega)]; omega
              have mq := mkT w9 q hq2.2
              have xb := blk_alloc XZ.out (.cells (rowT q) 27 (0, 0))
              have XA := Lib.hid (blk_new w9 (.cells (rowT q) 27 (0, 0)))
              have XB := Lib.hid xb
              have ZL := Lib.hid (blk_lt XZ.out)
              have HQ := Lib.hid hq2
              clear hq hq2 f0 f1 f2 f3 f4 r0 r1 r2 r3 r4
              have f0 := blk_frozen xb 0
              have f1 := blk_frozen xb 1
              have f2 := blk_frozen xb 2
              have f3 := blk_frozen xb 3
              have f4 := blk_frozen xb 4
              obtain ⟨r0, r1, r2, r3, r4⟩ := cells5_at xb
              clear xb
              go_wp2_with fail
              go_meet
              exact swt_whole XB.out rfl ((Kp.refl _ w9).alloc _) (row_tree _ XA.out (show w9.heap.size ≠ zd by have := ZL.out; omega) (by have := HQ.out; omega)) (bad5 HQ.out.1 HQ.out.2)
            · clear f0 f1 f2 f3 f4 r0 r1 r2 r3 r4
              obtain ⟨q, hq⟩ : ∃ q : Nat, q = 12 + yn := ⟨_, rfl⟩
              have hq2 : 12 ≤ q ∧ q ≤ 1000 := by have := Y1.out; have := Y10.out; omega
              have iq : IntKind.i64.wrap (12 + (yn : Int)) = (q : Int) := by rw [IntWalk.i64_in _ (by omega)]; omega
              have TD : Hid (Ts (fun k => k ≠ zd) w9 zd t) := Lib.hid ⟨_, _, _, _, _, _, _, _, _, XZ.out, TC3.out⟩
              clear hq
              go_wp2_with fail
              clear iq
              go_loopw [125] (fun p125 wr => ∃ (j : Nat) (b : Tr), j ≤ q ∧ p125 = .int .i64 j ∧ Hid (Ts (fun k => k ≠ zd) wr zd b) ∧ Hid (Dpp j b) ∧ Hid (Kp (fun k => k = zd) w9 wr)) (fun p _ => q - (intOf p).toNat)
              case atStart => exact ⟨0, t, Nat.zero_le _, rfl, TD, Lib.hid (dpp_0 WT.out), Lib.hid (Kp.refl _ w9)⟩
              case round =>
                obtain ⟨j, b, hj, rfl, TB, DB, KB⟩ := hrel
                by_cases hlt : j < q
                · have d0 : (j : Int) < (q : Int) := by omega
                  have HLT := Lib.hid hlt
                  obtain ⟨g5, k5, x5, A5x, n5x, a5, K5, m5, c5x, hX5, hT5⟩ := TB.out
                  have X5 := Lib.hid hX5
                  have T5 := Lib.hid hT5
                  obtain ⟨r0, r1, r2, r3, r4⟩ := cells5_at hX5
                  have xb := blk_alloc hX5 (.cells #[.string g5, .string k5, .string x5, .slice A5x n5x a5, .slice K5 m5 c5x] 27 (0, 0))
                  obtain ⟨s0, s1, s2, s3, s4⟩ := cells5_at xb
                  have f0 := blk_frozen xb 0
                  have f1 := blk_frozen xb 1
                  have f2 := blk_frozen xb 2
                  have f3 := blk_frozen xb 3
                  have f4 := blk_frozen xb 4
                  clear xb hX5 hT5
                  go_wp2_with fail
                  generalize hw10 : (((((wr.alloc _).setCell _ _).setCell _ _).setCell _ _).setCell _ _).setCell _ _ = w10 at *
                  have hup := up_store ⟨#[97]⟩ X5.out T5.out hw10
                  clear r0 r1 r2 r3 r4 s0 s1 s2 s3 s4 f0 f1 f2 f3 f4 hw10
                  go_roundw
                  case rel => exact ⟨j + 1, _, by have := HLT.out; omega, by go_num, Lib.hid hup.1, Lib.hid DB.out.next, Lib.hid (KB.out.trans hup.2 (fun i _ h => h))⟩
                  case measure =>
                    have := HLT.out
                    simp [intOf]
                    omega
                · obtain rfl : j = q := by omega
                  go_wp2_with fail
                  go_meet
                  exact ⟨b, TB.out, DB.out.bad hq2.1 hq2.2, KB.out⟩
            · have m20 : (Instr.makeSlice 25 (.int .i64 20) (.int .i64 20)).run Try.prog w9 = .ok (.slice (some ⟨w9.heap.size, 0, none⟩) 20 20) (w9.alloc (.cells (rowT 20) 27 (0, 0))) := mkT w9 20 (by omega)
              clear f0 f1 f2 f3 f4 r0 r1 r2 r3 r4
              have xb := blk_alloc (blk_alloc (blk_alloc XZ.out (.cells (rowT 20) 27 (0, 0))) (.cells #[.string ⟨#[97]⟩, .string ⟨#[]⟩, .string ⟨#[]⟩, .slice none 0 0, .slice (some ⟨w9.heap.size, 0, none⟩) 20 20] 27 (0, 0))) (.cells #[.string ⟨#[97]⟩, .string ⟨#[]⟩, .string ⟨#[]⟩, .slice none 0 0, .slice (some ⟨w9.heap.size, 0, none⟩) 20 20, .string ⟨#[97]⟩, .string ⟨#[]⟩, .string ⟨#[]⟩, .slice none 0 0, .slice (some ⟨w9.heap.size, 0, none⟩) 20 20, .string ⟨#[97]⟩, .string ⟨#[]⟩, .string ⟨#[]⟩, .slice none 0 0, .slice (some ⟨w9.heap.size, 0, none⟩) 20 20] 27 (0, 0))
              have xa := blk_alloc (blk_alloc (blk_new w9 (.cells (rowT 20) 27 (0, 0))) (.cells #[.string ⟨#[97]⟩, .string ⟨#[]⟩, .string ⟨#[]⟩, .slice none 0 0, .slice (some ⟨w9.heap.size, 0, none⟩) 20 20] 27 (0, 0))) (.cells #[.string ⟨#[97]⟩, .string ⟨#[]⟩, .string ⟨#[]⟩, .slice none 0 0, .slice (some ⟨w9.heap.size, 0, none⟩) 20 20, .string ⟨#[97]⟩, .string ⟨#[]⟩, .string ⟨#[]⟩, .slice none 0 0, .slice (some ⟨w9.heap.size, 0, none⟩) 20 20, .string ⟨#[97]⟩, .string ⟨#[]⟩, .string ⟨#[]⟩, .slice none 0 0, .slice (some ⟨w9.heap.size, 0, none⟩) 20 20] 27 (0, 0))
              have xc := blk_new ((w9.alloc (.cells (rowT 20) 27 (0, 0))).alloc (.cells #[.string ⟨#[97]⟩, .string ⟨#[]⟩, .string ⟨#[]⟩, .slice none 0 0, .slice (some ⟨w9.heap.size, 0, none⟩) 20 20] 27 (0, 0))) (.cells #[.string ⟨#[97]⟩, .string ⟨#[]⟩, .string ⟨#[]⟩, .slice none 0 0, .slice (some ⟨w9.heap.size, 0, none⟩) 20 20, .string ⟨#[97]⟩, .string ⟨#[]⟩, .string ⟨#[]⟩, .slice none 0 0, .slice (some ⟨w9.heap.size, 0, none⟩) 20 20, .string ⟨#[97]⟩, .string ⟨#[]⟩, .string ⟨#[]⟩, .slice none 0 0, .slice (some ⟨w9.heap.size, 0, none⟩) 20 20] 27 (0, 0))
              have sz : ((w9.alloc (.cells (rowT 20) 27 (0, 0))).alloc (.cells #[.string ⟨#[97]⟩, .string ⟨#[]⟩, .string ⟨#[]⟩, .slice none 0 0, .slice (some ⟨w9.heap.size, 0, none⟩) 20 20] 27 (0, 0))).heap.size = w9.heap.size + 2 := by simp
              rw [sz] at xc
              have kp := (((Kp.refl (fun k => k = zd) w9).alloc (.cells (rowT 20) 27 (0, 0))).alloc (.cells #[.string ⟨#[97]⟩, .string ⟨#[]⟩, .string ⟨#[]⟩, .slice none 0 0, .slice (some ⟨w9.heap.size, 0, none⟩) 20 20] 27 (0, 0))).alloc (.cells #[.string ⟨#[97]⟩, .string ⟨#[]⟩, .string ⟨#[]⟩, .slice none 0 0, .slice (some ⟨w9.heap.size, 0, none⟩) 20 20, .string ⟨#[97]⟩, .string ⟨#[]⟩, .string ⟨#[]⟩, .slice none 0 0, .slice (some ⟨w9.heap.size, 0, none⟩) 20 20, .string ⟨#[97]⟩, .string ⟨#[]⟩, .string ⟨#[]⟩, .slice none 0 0, .slice (some ⟨w9.heap.size, 0, none⟩) 20 20] 27 (0, 0))
              have zl := blk_lt XZ.out
              have XB := Lib.hid xb
              have KP := Lib.hid kp
              have TB := Lib.hid (trw_three (p := fun k => k ≠ zd) ⟨#[97]⟩ xc (show w9.heap.size + 2 ≠ zd by omega) (row_tree ⟨#[97]⟩ xa (show w9.heap.size ≠ zd by omega) (by omega)))
              clear xa xc kp sz zl
              have f0 := blk_frozen xb 0
              have f1 := blk_frozen xb 1
              have f2 := blk_frozen xb 2
              have f3 := blk_frozen xb 3
              have f4 := blk_frozen xb 4
              obtain ⟨r0, r1, r2, r3, r4⟩ := cells5_at xb
              clear xb
              go_wp2_with fail
              go_meet
              exact swt_whole XB.out rfl KP.out TB.out bad7
          case rest =>
            obtain ⟨b, ⟨g5, k5, x5, A5x, n5x, a5, K5, m5, c5x, hX5, hT5⟩, hB, hK⟩ := hcut
            have X5 := Lib.hid hX5
            have T5 := Lib.hid hT5
            have BD := Lib.hid hB
            have B8 := Lib.hid (B7.out.trans (hK.below B7.out.size (fun k hk e => by have := ZW.out; omega)))
            obtain ⟨r0, r1, r2, r3, r4⟩ := cells5_at hX5
            clear hX5 hT5 hB hK XZ TC3 B7
            go_wp2_with fail
            refine (right7 _ b _ T5.out BD.out.nds).mono ?_
            rintro e wa ⟨rfl, hba⟩
            have BA := Lib.hid hba
            clear hba r0 r1 r2 r3 r4
            rw [BD.out.no]
            obtain ⟨r0, r1, r2, r3, r4⟩ := cells5_at (blk_call X5.out BA.out)
            go_wp2_with fail
            refine (print8 _ b _ (T5.out.call BA.out) BD.out.nds BD.out.ln).mono ?_
            rintro e wb ⟨rfl, hbb⟩
            have BB := Lib.hid (BA.out.trans (hbb.mono BA.out.size))
            clear hbb r0 r1 r2 r3 r4
            rw [pnT_bad BD.out.no]
            go_wp2_with fail
            refine (runs3 _).mono ?_
            rintro e wd ⟨rfl, hbd⟩
            have BF := Lib.hid (B8.out.trans ((BB.out.trans (hbd.mono BB.out.size)).mono B8.out.size))
            clear hbd
            go_wp2_with fail
            go_ret
            exact ⟨rfl, BF.out⟩
end Go.Proofs.Ytolklphenllhpaa
