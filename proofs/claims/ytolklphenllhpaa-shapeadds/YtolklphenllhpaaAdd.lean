/-
  ShapeAdds: a tree with another one as its last kid; where that is too much it isn't right.
-/
import Derived.Test.YtolklphenllhpaaTwo
import Derived.Test.YtolklphenllhpaaCpy
import Derived.Test.YtolklphenllhpaaSam
import Derived.Test.YtolklphenllhpaaVee
import Derived.Deep.LoopGhost
namespace Go.Proofs.Ytolklphenllhpaa
open Go.RowKit Go.PlainAid
set_option maxRecDepth 100000

def tgX : Tx := ⟨#[120]⟩
def tgY : Tx := ⟨#[121]⟩
/-- t below a node of its own -/
def upY (t : Tr) : Tr := .mk tgY ⟨#[]⟩ ⟨#[]⟩ [] [t]
def bothT (t u : Tr) : Tr := .mk tgX ⟨#[]⟩ ⟨#[]⟩ [] [t, u]
theorem up_cnt (t : Tr) : (upY t).cnt = t.cnt + 1 := by unfold upY; rw [cnt_mk]; simp [cntL]; omega
theorem up_dep (t : Tr) : (upY t).dep = t.dep + 1 := by unfold upY; rw [dep_mk]; simp [depL]; omega
theorem both_cnt (t u : Tr) : (bothT t u).cnt = t.cnt + u.cnt + 1 := by unfold bothT; rw [cnt_mk]; simp [cntL]; omega
theorem both_dep (t u : Tr) : (bothT t u).dep = 1 + max t.dep u.dep := by unfold bothT; rw [dep_mk]; simp [depL]
theorem both_slt (t u : Tr) : (bothT t u).slt = t.slt + u.slt := by
  unfold bothT
  rw [slt_mk, if_neg (by decide)]
  simp [sltL]
theorem up_all {P : Tr → Prop} {t : Tr} (h : t.all P) (hp : P (upY t)) : (upY t).all P := by
  rw [all_iff]
  exact ⟨hp, fun k hk => by rw [List.mem_singleton.1 hk]; exact h⟩
theorem both_all {P : Tr → Prop} {t u : Tr} (h : t.all P) (h2 : u.all P) (hp : P (bothT t u)) : (bothT t u).all P := by
  rw [all_iff]
  refine ⟨hp, fun k hk => ?_⟩
  rcases List.mem_cons.1 hk with rfl | hk
  · exact h
  · rw [List.mem_singleton.1 hk]; exact h2
theorem up_nds (t : Tr) : NdS (upY t) := by
  unfold upY
  simp only [NdS, AtS, Tr.tag, Tr.key, Tr.text, Tr.attrs]
  exact ⟨Or.inl (by decide), by decide, by decide, by decide⟩
theorem both_nds (t u : Tr) : NdS (bothT t u) := by
  unfold bothT
  simp only [NdS, AtS, Tr.tag, Tr.key, Tr.text, Tr.attrs]
  exact ⟨Or.inl (by decide), by decide, by decide, by decide⟩
theorem up_rn (t : Tr) : rn (upY t) = true := by
  unfold upY
  rw [rn, if_neg (by decide)]
  have : atB [] = true := by decide
  rw [this, show [t].length = 1 from rfl]
  decide
theorem both_rn (t u : Tr) : rn (bothT t u) = true := by
  unfold bothT
  rw [rn, if_neg (by decide)]
  have : atB [] = true := by decide
  rw [this, show [t, u].length = 2 from rfl]
  decide
/-- a tree that is right, of so many nodes at most -/
structure Rgh (t : Tr) : Prop where
  nds : t.all NdS
  rns : t.all (fun x => rn x = true)
  dep : t.dep ≤ 12
  cnt : t.cnt ≤ 40
theorem Rgh.rt {t : Tr} (h : Rgh t) : rtB t = true := by
  have := rg_yes 12 t 60 h.rns h.dep (by have := h.cnt; omega)
  unfold rtB
  rw [this]
theorem WoT.rgh {t : Tr} (h : WoT t) : Rgh t := ⟨h.nds, h.right, by have := h.2.2.1; omega, by have := h.2.1; omega⟩
theorem rgh_both {t u : Tr} (h : WoT t) (k : WoT u) : Rgh (bothT t u) :=
  ⟨both_all h.nds k.nds (both_nds t u), both_all h.right k.right (both_rn t u), by rw [both_dep]; have := h.2.2.1; have := k.2.2.1; omega, by rw [both_cnt]; have := h.2.1; have := k.2.1; omega⟩
theorem rgh_up {t : Tr} (h : Rgh t) (hd : t.dep < 12) (hc : t.cnt < 40) : Rgh (upY t) :=
  ⟨up_all h.nds (up_nds t), up_all h.rns (up_rn t), by rw [up_dep]; omega, by rw [up_cnt]; omega⟩
theorem up_bad {t : Tr} (h : t.dep = 12) : rtB (upY t) = false := by
  unfold rtB
  exact rg_bad (Or.inr (Or.inl (by rw [up_dep]; omega)))

set_option maxHeartbeats 12800000 in
theorem adds6 (va vb : Value) (w : World) (hk0 : Wo w va) (hk1 : Wo w vb) : Calls Try.prog 6 #[va, vb] w fun e w' => e = .returned (.bool true) ∧ Below w.heap.size w w' := by
  obtain ⟨A0, n0, c0, A1, n1, c1, A2, n2, c2, A3, n3, c3, f0, f1, f2, f3, rfl, hi0, hi1, hi2, hi3⟩ := hk0
  obtain ⟨A4, n4, c4, A5, n5, c5, A6, n6, c6, A7, n7, c7, f4, f5, f6, f7, rfl, hi4, hi5, hi6, hi7⟩ := hk1
  have I0 := Lib.hid hi0
  have I1 := Lib.hid hi1
  have I2 := Lib.hid hi2
  have I3 := Lib.hid hi3
  have I4 := Lib.hid hi4
  have I5 := Lib.hid hi5
  have I6 := Lib.hid hi6
  have I7 := Lib.hid hi7
  clear hi0 hi1 hi2 hi3 hi4 hi5 hi6 hi7
  go_enter Try.func6, Try.ntmps6
  go_upto_region 1 with fail
  have HB := Lib.hid (((Below.refl w.heap.size w).alloc (Nat.le_refl _) (.cells #[.slice A0 n0 c0, .slice A1 n1 c1, .slice A2 n2 c2, .slice A3 n3 c3] 34 (0, 0))).alloc (by simp) (.cells #[.slice A4 n4 c4, .slice A5 n5 c5, .slice A6 n6 c6, .slice A7 n7 c7] 34 (0, 0)))
  have X1 := Lib.hid (blk_alloc (blk_new w (.cells #[.slice A0 n0 c0, .slice A1 n1 c1, .slice A2 n2 c2, .slice A3 n3 c3] 34 (0, 0))) (.cells #[.slice A4 n4 c4, .slice A5 n5 c5, .slice A6 n6 c6, .slice A7 n7 c7] 34 (0, 0)))
  have X2 := Lib.hid (blk_new1 w (.cells #[.slice A0 n0 c0, .slice A1 n1 c1, .slice A2 n2 c2, .slice A3 n3 c3] 34 (0, 0)) (.cells #[.slice A4 n4 c4, .slice A5 n5 c5, .slice A6 n6 c6, .slice A7 n7 c7] 34 (0, 0)))
  generalize (w.alloc (.cells #[.slice A0 n0 c0, .slice A1 n1 c1, .slice A2 n2 c2, .slice A3 n3 c3] 34 (0, 0))).alloc (.cells #[.slice A4 n4 c4, .slice A5 n5 c5, .slice A6 n6 c6, .slice A7 n7 c7] 34 (0, 0)) = w5 at *
  have KS : Hid (∀ w' : World, Below w5.heap.size w5 w' → (w'.cell? ⟨w.heap.size, 0, none⟩ = some (.slice A0 n0 c0) ∧ w'.cell? ⟨w.heap.size, 1, none⟩ = some (.slice A1 n1 c1) ∧ w'.cell? ⟨w.heap.size, 2, none⟩ = some (.slice A2 n2 c2) ∧ w'.cell? ⟨w.heap.size, 3, none⟩ = some (.slice A3 n3 c3)) ∧ w'.cell? ⟨w.heap.size + 1, 0, none⟩ = some (.slice A4 n4 c4) ∧ w'.cell? ⟨w.heap.size + 1, 1, none⟩ = some (.slice A5 n5 c5) ∧ w'.cell? ⟨w.heap.size + 1, 2, none⟩ = some (.slice A6 n6 c6) ∧ w'.cell? ⟨w.heap.size + 1, 3, none⟩ = some (.slice A7 n7 c7)) := Lib.hid (fun w' hk => ⟨cells4_at (blk_call X1.out hk), cells4_at (blk_call X2.out hk)⟩)
  go_cut [5, 6] from 9 (fun v7 v8 wz => ∃ N M t u, v7 = .pointer (some ⟨N, 0, none⟩) ∧ v8 = .pointer (some ⟨M, 0, none⟩) ∧ Two w5.heap.size N M t u wz ∧ Below w5.heap.size w5 wz)
  case first =>
    have hSd : (fun w' : World => (w'.cell? ⟨w.heap.size, 0, none⟩ = some (.slice A0 n0 c0) ∧ w'.cell? ⟨w.heap.size, 1, none⟩ = some (.slice A1 n1 c1) ∧ w'.cell? ⟨w.heap.size, 2, none⟩ = some (.slice A2 n2 c2) ∧ w'.cell? ⟨w.heap.size, 3, none⟩ = some (.slice A3 n3 c3)) ∧ w'.cell? ⟨w.heap.size + 1, 0, none⟩ = some (.slice A4 n4 c4) ∧ w'.cell? ⟨w.heap.size + 1, 1, none⟩ = some (.slice A5 n5 c5) ∧ w'.cell? ⟨w.heap.size + 1, 2, none⟩ = some (.slice A6 n6 c6) ∧ w'.cell? ⟨w.heap.size + 1, 3, none⟩ = some (.slice A7 n7 c7)) w5.drew := KS.out _ ((Below.refl _ _).drew)
    refine wp_region_sink (S := fun w' : World => (w'.cell? ⟨w.heap.size, 0, none⟩ = some (.slice A0 n0 c0) ∧ w'.cell? ⟨w.heap.size, 1, none⟩ = some (.slice A1 n1 c1) ∧ w'.cell? ⟨w.heap.size, 2, none⟩ = some (.slice A2 n2 c2) ∧ w'.cell? ⟨w.heap.size, 3, none⟩ = some (.slice A3 n3 c3)) ∧ w'.cell? ⟨w.heap.size + 1, 0, none⟩ = some (.slice A4 n4 c4) ∧ w'.cell? ⟨w.heap.size + 1, 1, none⟩ = some (.slice A5 n5 c5) ∧ w'.cell? ⟨w.heap.size + 1, 2, none⟩ = some (.slice A6 n6 c6) ∧ w'.cell? ⟨w.heap.size + 1, 3, none⟩ = some (.slice A7 n7 c7)) (n := 1000) (by kernel_rfl) ?_
    change wpSink _ _ _ _ _ 1000 8 _ _ _
    refine sink_take0 (i := 0) (v := ?_) rfl (by kernel_rfl) (by decide) (by kernel_rfl) (by kernel_rfl) (fun _ _ _ h => h) (Or.inl ⟨by rfl, ?_⟩) hSd ?_
    rotate_left
    · intro wz hSw
      (try dsimp only at hSw)
      obtain ⟨⟨s0, s1, s2, s3⟩, s4, s5, s6, s7⟩ := hSw
      go_simp
      (try with_reducible rfl)
    try simp only [Act.put]
    refine sink_take0 (i := 2) (v := ?_) rfl (by kernel_rfl) (by decide) (by kernel_rfl) (by kernel_rfl) (fun _ _ _ h => h) (Or.inl ⟨by rfl, ?_⟩) hSd ?_
    rotate_left
    · intro wz hSw
      (try dsimp only at hSw)
      obtain ⟨⟨s0, s1, s2, s3⟩, s4, s5, s6, s7⟩ := hSw
      go_simp
      (try with_reducible rfl)
    try simp only [Act.put]
    refine sink_inv (I := fun ls a W => ∃ (b1 b3 b4 b5 b6 b7 : Bool) (t18 t20 t7 t8 : Value), ls = #[true, b1, true, b3, b4, b5, b6, b7] ∧ a = (⟨#[.agg #[.slice A0 n0 c0, .slice A1 n1 c1, .slice A2 n2 c2, .slice A3 n3 c3], .agg #[.slice A4 n4 c4, .slice A5 n5 c5, .slice A6 n6 c6, .slice A7 n7 c7], .pointer (some ⟨w.heap.size, 0, none⟩), .pointer (some ⟨w.heap.size + 1, 0, none⟩), .bool false, t7, t8, undef, undef, .agg #[.slice A0 n0 c0, .slice A1 n1 c1, .slice A2 n2 c2, .slice A3 n3 c3], t18, .agg #[.slice A4 n4 c4, .slice A5 n5 c5, .slice A6 n6 c6, .slice A7 n7 c7], t20, undef, undef, undef, undef, undef, undef, undef, undef, undef, undef, undef, undef, undef, undef, undef, undef, undef, undef, undef, undef, undef, undef, undef, undef, undef, undef, undef, undef, undef, undef, undef, undef, undef, undef, undef, undef, undef, undef, undef, undef, undef, undef, undef, undef, undef, undef, undef, undef, undef, undef, undef, undef, undef, undef, undef, undef, undef, undef, undef, undef, undef, undef, undef, undef, undef, undef, undef, undef, undef, undef, undef, undef, undef, undef, undef], []⟩ : Act) ∧ PI w5 b1 b3 b4 b5 b6 b7 t18 t20 t7 t8 W) (by kernel_rfl) ?_ ?_ ?_ 6 _ _ _ (by decide) ?_
    · rintro ls a W ⟨b1, b3, b4, b5, b6, b7, t18, t20, t7, t8, rfl, rfl, hg⟩
      rfl
    · rintro i hi ls a W ⟨b1, b3, b4, b5, b6, b7, t18, t20, t7, t8, rfl, rfl, hg⟩ hr
      have hi8 : i < 8 := hi
      have HG := Lib.hid hg
      have HR := Lib.hid hr
      clear hg hr hi
      obtain rfl | rfl | rfl | rfl | rfl | rfl | rfl | rfl : i = 0 ∨ i = 2 ∨ i = 1 ∨ i = 3 ∨ i = 4 ∨ i = 5 ∨ i = 6 ∨ i = 7 := by omega
      · cases (show true = false from ready_un HR.out)
      · cases (show true = false from ready_un HR.out)
      · obtain rfl : b1 = false := ready_un HR.out
        refine wpOp_step rfl (fun K' hK => ?_)
        have HK := Lib.hid hK
        clear hK
        rw [if_pos (by rfl)]
        go_simp
        have HZ := Lib.hid (HB.out.trans (HG.out.bel.mono HB.out.size))
        refine (tree12 _ _ _ _ _ _ _ _ _ _ _ _ f0 f1 f2 f3 _ (I0.out.call HZ.out) (I1.out.call HZ.out) (I2.out.call HZ.out) (I3.out.call HZ.out)).mono ?_
        rintro e w' ⟨v, t, rfl, g1, g2, g3⟩
        have hn := pi1 HG.out g1 g2 g3
        exact HK.out _ _ ⟨Or.inr (KS.out _ hn.bel), _, _, _, _, _, _, _, _, _, _, rfl, rfl, hn⟩
      · obtain rfl : b3 = false := ready_un HR.out
        refine wpOp_step rfl (fun K' hK => ?_)
        have HK := Lib.hid hK
        clear hK
        rw [if_pos (by rfl)]
        go_simp
        have HZ := Lib.hid (HB.out.trans (HG.out.bel.mono HB.out.size))
        refine (tree12 _ _ _ _ _ _ _ _ _ _ _ _ f4 f5 f6 f7 _ (I4.out.call HZ.out) (I5.out.call HZ.out) (I6.out.call HZ.out) (I7.out.call HZ.out)).mono ?_
        rintro e w' ⟨v, t, rfl, g1, g2, g3⟩
        have hn := pi3 HG.out g1 g2 g3
        exact HK.out _ _ ⟨Or.inr (KS.out _ hn.bel), _, _, _, _, _, _, _, _, _, _, rfl, rfl, hn⟩
      · obtain rfl : b4 = false := ready_un HR.out
        refine wpOp_step rfl (fun K' hK => ?_)
        have HK := Lib.hid hK
        clear hK
        rw [if_pos (by rfl)]
        go_simp
        have hn := pi4 HG.out
        exact HK.out _ _ ⟨Or.inr (KS.out _ hn.bel), _, _, _, _, _, _, _, _, _, _, rfl, rfl, hn⟩
      · obtain rfl : b5 = false := ready_un HR.out
        refine wpOp_step rfl (fun K' hK => ?_)
        have HK := Lib.hid hK
        clear hK
        rw [if_pos (by rfl)]
        go_simp
        have hn := pi5 HG.out
        exact HK.out _ _ ⟨Or.inr (KS.out _ hn.bel), _, _, _, _, _, _, _, _, _, _, rfl, rfl, hn⟩
      · obtain rfl : b6 = false := ready_un HR.out
        obtain rfl : b1 = true := ready_dep (j := 1) (by kernel_rfl) HR.out
        obtain rfl : b4 = true := ready_dep (j := 4) (by kernel_rfl) HR.out
        obtain ⟨N, hN, rfl, hS⟩ := HG.out.f4 rfl
        obtain ⟨g, k, x, A, n, a, K, m, c, rfl⟩ := (HG.out.f1 rfl).shape
        have HN := Lib.hid hN
        have HNB := Lib.hid (hS.1 rfl)
        clear hN hS
        obtain ⟨r0, r1, r2, r3, r4⟩ := cells5_at HNB.out
        have q0 := blk_frozen HNB.out 0
        have q1 := blk_frozen HNB.out 1
        have q2 := blk_frozen HNB.out 2
        have q3 := blk_frozen HNB.out 3
        have q4 := blk_frozen HNB.out 4
        unfold ptr
        refine wpOp_step rfl (fun K' hK => ?_)
        have HK := Lib.hid hK
        clear hK
        rw [if_pos (by rfl)]
        go_simp
        have hn := pi6 HG.out HN.out HNB.out
        unfold ptr at hn
        exact HK.out _ _ ⟨Or.inr (KS.out _ hn.bel), _, _, _, _, _, _, _, _, _, _, rfl, rfl, hn⟩
      · obtain rfl : b7 = false := ready_un HR.out
        obtain rfl : b3 = true := ready_dep (j := 3) (by kernel_rfl) HR.out
        obtain rfl : b5 = true := ready_dep (j := 5) (by kernel_rfl) HR.out
        obtain ⟨N, hN, rfl, hS⟩ := HG.out.f5 rfl
        obtain ⟨g, k, x, A, n, a, K, m, c, rfl⟩ := (HG.out.f3 rfl).shape
        have HN := Lib.hid hN
        have HNB := Lib.hid (hS.1 rfl)
        clear hN hS
        obtain ⟨r0, r1, r2, r3, r4⟩ := cells5_at HNB.out
        have q0 := blk_frozen HNB.out 0
        have q1 := blk_frozen HNB.out 1
        have q2 := blk_frozen HNB.out 2
        have q3 := blk_frozen HNB.out 3
        have q4 := blk_frozen HNB.out 4
        unfold ptr
        refine wpOp_step rfl (fun K' hK => ?_)
        have HK := Lib.hid hK
        clear hK
        rw [if_pos (by rfl)]
        go_simp
        have hn := pi7 HG.out HN.out HNB.out
        unfold ptr at hn
        exact HK.out _ _ ⟨Or.inr (KS.out _ hn.bel), _, _, _, _, _, _, _, _, _, _, rfl, rfl, hn⟩
    · rintro ls a W ⟨b1, b3, b4, b5, b6, b7, t18, t20, t7, t8, rfl, rfl, hg⟩ hall
      obtain rfl : b1 = true := hall 1 (by decide)
      obtain rfl : b3 = true := hall 3 (by decide)
      obtain rfl : b4 = true := hall 4 (by decide)
      obtain rfl : b5 = true := hall 5 (by decide)
      obtain rfl : b6 = true := hall 6 (by decide)
      obtain rfl : b7 = true := hall 7 (by decide)
      have hend := pi_end hg
      clear hg hall
      go_wp2_with fail
      go_meet
      exact hend
    · exact ⟨false, false, false, false, false, false, _, _, _, _, rfl, rfl, pi_start _ _ _ _ _ ((Below.refl _ _).drew)⟩
  case rest =>
    obtain ⟨N, M, t, u, rfl, rfl, hz, hzb⟩ := hcut
    have TW := Lib.hid hz
    have BZ := Lib.hid (HB.out.trans (hzb.mono HB.out.size))
    have B5Z := Lib.hid HB.out.size
    clear hz hzb HB X1 X2 KS I0 I1 I2 I3 I4 I5 I6 I7
    obtain ⟨g, k, x, A, n, a, K, m, c, hX, hT⟩ := TW.out.t1
    obtain ⟨g2, k2, x2, A9, n9, a9, K9, m9, c9, hX2, hT2⟩ := TW.out.t2
    obtain ⟨r0, r1, r2, r3, r4⟩ := cells5_at hX
    obtain ⟨s0, s1, s2, s3, s4⟩ := cells5_at hX2
    go_upto_region 3 with fail
    have xb := blk_alloc (blk_new wc (.cells #[.string g, .string k, .string x, .slice A n a, .slice K m c, .string g2, .string k2, .string x2, .slice A9 n9 a9, .slice K9 m9 c9] 27 (0, 0))) (.cells #[.string ⟨#[120]⟩, .string ⟨#[]⟩, .string ⟨#[]⟩, .slice none 0 0, .slice (some ⟨wc.heap.size, 0, none⟩) 2 2] 27 (0, 0))
    have xe := blk_new1 wc (.cells #[.string g, .string k, .string x, .slice A n a, .slice K m c, .string g2, .string k2, .string x2, .slice A9 n9 a9, .slice K9 m9 c9] 27 (0, 0)) (.cells #[.string ⟨#[120]⟩, .string ⟨#[]⟩, .string ⟨#[]⟩, .slice none 0 0, .slice (some ⟨wc.heap.size, 0, none⟩) 2 2] 27 (0, 0))
    have hb2 := ((Below.refl wc.heap.size wc).alloc (Nat.le_refl _) (.cells #[.string g, .string k, .string x, .slice A n a, .slice K m c, .string g2, .string k2, .string x2, .slice A9 n9 a9, .slice K9 m9 c9] 27 (0, 0))).alloc (by simp) (.cells #[.string ⟨#[120]⟩, .string ⟨#[]⟩, .string ⟨#[]⟩, .slice none 0 0, .slice (some ⟨wc.heap.size, 0, none⟩) 2 2] 27 (0, 0))
    obtain ⟨zc, hzc⟩ : ∃ zc, wc.heap.size = zc := ⟨_, rfl⟩
    have XN := Lib.hid (blk_call hX hb2)
    have XM := Lib.hid (blk_call hX2 hb2)
    have tn := hT.call hb2
    have tm := hT2.call hb2
    have sz : ((wc.alloc (.cells #[.string g, .string k, .string x, .slice A n a, .slice K m c, .string g2, .string k2, .string x2, .slice A9 n9 a9, .slice K9 m9 c9] 27 (0, 0))).alloc (.cells #[.string ⟨#[120]⟩, .string ⟨#[]⟩, .string ⟨#[]⟩, .slice none 0 0, .slice (some ⟨wc.heap.size, 0, none⟩) 2 2] 27 (0, 0))).heap.size = wc.heap.size + 2 := by simp
    generalize (wc.alloc _).alloc _ = w2 at *
    rw [hzc] at xb xe sz
    rw [hzc]
    have te := trw_two (p := fun k => k < zc + 2) (g := tgX) (k := ⟨#[]⟩) (x := ⟨#[]⟩) (at_nil _ w2) (by simp) (Nat.le_refl 2) (show zc < zc + 2 by omega) xb (tn.mono (fun k _ hk => by rw [sz] at hk; exact hk)) (tm.mono (fun k _ hk => by rw [sz] at hk; exact hk))
    have TN := Lib.hid (tn.mono (q := fun k => k < zc + 2) (fun k _ hk => by rw [sz] at hk; exact hk))
    have TM := Lib.hid (tm.mono (q := fun k => k < zc + 2) (fun k _ hk => by rw [sz] at hk; exact hk))
    have TE : Hid (TrW (fun k => k < zc + 2) w2 (.agg #[.string ⟨#[120]⟩, .string ⟨#[]⟩, .string ⟨#[]⟩, .slice none 0 0, .slice (some ⟨zc, 0, none⟩) 2 2]) (bothT t u)) := Lib.hid te
    have XE := Lib.hid xe
    have WT := Lib.hid TW.out.wt
    have WU := Lib.hid TW.out.wu
    have RB := Lib.hid (rgh_both TW.out.wt TW.out.wu)
    have SZ := Lib.hid sz
    have B2 := Lib.hid (BZ.out.trans (hb2.mono BZ.out.size))
    have ct := WT.out.2.1
    have cu := WU.out.2.1
    have dt := WT.out.2.2.1
    have du := WU.out.2.2.1
    have lt := slt_cnt t
    have lu := slt_cnt u
    have i1 : IntKind.i64.wrap ((t.cnt : Int) + (u.cnt : Int)) = (t.cnt : Int) + (u.cnt : Int) := IntWalk.i64_in _ (by omega)
    have i2 : IntKind.i64.wrap ((t.cnt : Int) + (u.cnt : Int) + 1) = (t.cnt : Int) + (u.cnt : Int) + 1 := IntWalk.i64_in _ (by omega)
    have i3 : IntKind.i64.wrap ((t.slt : Int) + (u.slt : Int)) = (t.slt : Int) + (u.slt : Int) := IntWalk.i64_in _ (by omega)
    obtain ⟨mx, hmx⟩ : ∃ mx, max t.dep u.dep = mx := ⟨_, rfl⟩
    have i4 : (if t.dep < u.dep then (u.dep : Int) else (t.dep : Int)) = (mx : Int) := by rw [← hmx]; split <;> omega
    have i5 : IntKind.i64.wrap (1 + (mx : Int)) = 1 + (mx : Int) := IntWalk.i64_in _ (by omega)
    have HMX := Lib.hid hmx
    clear hmx
    clear xb xe hb2 hzc tn tm sz te hX hT hX2 hT2 TW BZ B5Z r0 r1 r2 r3 r4 s0 s1 s2 s3 s4
    have SH := Lib.hid (fun W (hW : Below w2.heap.size w2 W) => And.intro (cells5_at (blk_call XN.out hW)) (And.intro (cells5_at (blk_call XM.out hW)) (cells5_at (blk_call XE.out hW))))
    go_cut [46] from 47 (fun v46 wz => v46 = .bool false ∧ Below w2.heap.size w2 wz)
    case first =>
      have P0 : Hid (Below w2.heap.size w2 w2.drew) := Lib.hid ((Below.refl _ _).drew)
      refine wp_region_pre 29 (0 :: 2 :: 4 :: []) 27 (fun W => Below w2.heap.size w2 W) (by kernel_rfl) (by kernel_rfl) (by decide) (by kernel_rfl) (fun d _ _ _ _ h => by cases d <;> exact h) (P0.out) ?_
      refine pre_q (d := some 17) (v := ?_) rfl rfl (Or.inl ⟨by rfl, ?_⟩) ?_
      rotate_left
      · intro wz hSw
        obtain ⟨⟨a0, a1, a2, a3, a4⟩, ⟨b0, b1, b2, b3, b4⟩, ⟨e0, e1, e2, e3, e4⟩⟩ := SH.out wz hSw
        go_simp
        (try with_reducible rfl)
      try simp only [Act.put, List.setIfInBounds_toArray, List.set_cons_zero, List.set_cons_succ]
      refine pre_q (d := some 19) (v := ?_) rfl rfl (Or.inl ⟨by rfl, ?_⟩) ?_
      rotate_left
      · intro wz hSw
        obtain ⟨⟨a0, a1, a2, a3, a4⟩, ⟨b0, b1, b2, b3, b4⟩, ⟨e0, e1, e2, e3, e4⟩⟩ := SH.out wz hSw
        go_simp
        (try with_reducible rfl)
      try simp only [Act.put, List.setIfInBounds_toArray, List.set_cons_zero, List.set_cons_succ]
      refine pre_q (d := some 21) (v := ?_) rfl rfl (Or.inl ⟨by rfl, ?_⟩) ?_
      rotate_left
      · intro wz hSw
        obtain ⟨⟨a0, a1, a2, a3, a4⟩, ⟨b0, b1, b2, b3, b4⟩, ⟨e0, e1, e2, e3, e4⟩⟩ := SH.out wz hSw
        go_simp
        (try with_reducible rfl)
      try simp only [Act.put, List.setIfInBounds_toArray, List.set_cons_zero, List.set_cons_succ]
      refine pre_nil ?_
      refine sinkw_one (i := 1) (by kernel_rfl) ?_
      refine wpOp_step rfl (fun K' hK => ?_)
      have HK := Lib.hid hK
      clear hK
      rw [if_pos (by rfl)]
      go_simp
      refine (count9 40 (by omega) _ (bothT t u) _ RB.out.cnt (TE.out.call P0.out)).mono ?_
      rintro e x1 ⟨rfl, hb⟩
      have xP1 := Lib.hid (P0.out.trans (hb.mono P0.out.size))
      clear hb
      rw [both_cnt]
      refine HK.out _ _ ⟨Or.inr xP1.out, ?_⟩
      clear HK
      try change SinkW _ _ _ _ _ _ _ _ (Act.put _ (some 18) _) _
      try simp only [Act.put, List.setIfInBounds_toArray, List.set_cons_zero, List.set_cons_succ]
      refine sinkw_one (i := 3) (by kernel_rfl) ?_
      refine wpOp_step rfl (fun K' hK => ?_)
      have HK := Lib.hid hK
      clear hK
      rw [if_pos (by rfl)]
      go_simp
      refine (count9 13 (by omega) _ t _ WT.out.2.1 (TN.out.call xP1.out)).mono ?_
      rintro e x2 ⟨rfl, hb⟩
      have xP2 := Lib.hid (xP1.out.trans (hb.mono xP1.out.size))
      clear hb
      refine HK.out _ _ ⟨Or.inr xP2.out, ?_⟩
      clear HK
      try change SinkW _ _ _ _ _ _ _ _ (Act.put _ (some 20) _) _
      try simp only [Act.put, List.setIfInBounds_toArray, List.set_cons_zero, List.set_cons_succ]
      refine sinkw_one (i := 5) (by kernel_rfl) ?_
      refine wpOp_step rfl (fun K' hK => ?_)
      have HK := Lib.hid hK
      clear hK
      rw [if_pos (by rfl)]
      go_simp
      refine (count9 13 (by omega) _ u _ WU.out.2.1 (TM.out.call xP2.out)).mono ?_
      rintro e x3 ⟨rfl, hb⟩
      have xP3 := Lib.hid (xP2.out.trans (hb.mono xP2.out.size))
      clear hb
      refine HK.out _ _ ⟨Or.inr xP3.out, ?_⟩
      clear HK
      try change SinkW _ _ _ _ _ _ _ _ (Act.put _ (some 22) _) _
      try simp only [Act.put, List.setIfInBounds_toArray, List.set_cons_zero, List.set_cons_succ]
      refine sinkw_take (i := 6) (d := some 23) (v := ?_) rfl rfl (by kernel_rfl) (by kernel_rfl) (fun _ _ _ h => h) (Or.inl ⟨by rfl, ?_⟩) (xP3.out) ?_
      rotate_left
      · intro wz hSw
        obtain ⟨⟨a0, a1, a2, a3, a4⟩, ⟨b0, b1, b2, b3, b4⟩, ⟨e0, e1, e2, e3, e4⟩⟩ := SH.out wz hSw
        go_simp
        (try with_reducible rfl)
      try simp only [Act.put, List.setIfInBounds_toArray, List.set_cons_zero, List.set_cons_succ]
      refine sinkw_take (i := 7) (d := some 24) (v := ?_) rfl rfl (by kernel_rfl) (by kernel_rfl) (fun _ _ _ h => h) (Or.inl ⟨by rfl, ?_⟩) (xP3.out) ?_
      rotate_left
      · intro wz hSw
        obtain ⟨⟨a0, a1, a2, a3, a4⟩, ⟨b0, b1, b2, b3, b4⟩, ⟨e0, e1, e2, e3, e4⟩⟩ := SH.out wz hSw
        go_simp
        (try with_reducible rfl)
      try simp only [Act.put, List.setIfInBounds_toArray, List.set_cons_zero, List.set_cons_succ]
      refine sinkw_take (i := 8) (d := some 25) (v := ?_) rfl rfl (by kernel_rfl) (by kernel_rfl) (fun _ _ _ h => h) (Or.inl ⟨by rfl, ?_⟩) (xP3.out) ?_
      rotate_left
      · intro wz hSw
        obtain ⟨⟨a0, a1, a2, a3, a4⟩, ⟨b0, b1, b2, b3, b4⟩, ⟨e0, e1, e2, e3, e4⟩⟩ := SH.out wz hSw
        go_simp
        (try with_reducible rfl)
      try simp only [Act.put, List.setIfInBounds_toArray, List.set_cons_zero, List.set_cons_succ]
      refine sinkw_take (i := 9) (d := some 26) (v := ?_) rfl rfl (by kernel_rfl) (by kernel_rfl) (fun _ _ _ h => h) (Or.inl ⟨by rfl, ?_⟩) (xP3.out) ?_
      rotate_left
      · intro wz hSw
        obtain ⟨⟨a0, a1, a2, a3, a4⟩, ⟨b0, b1, b2, b3, b4⟩, ⟨e0, e1, e2, e3, e4⟩⟩ := SH.out wz hSw
        go_simp
        (try with_reducible rfl)
      try simp only [Act.put, List.setIfInBounds_toArray, List.set_cons_zero, List.set_cons_succ]
      refine sinkw_take (i := 10) (d := some 27) (v := ?_) rfl rfl (by kernel_rfl) (by kernel_rfl) (fun _ _ _ h => h) (Or.inl ⟨by rfl, ?_⟩) (xP3.out) ?_
      rotate_left
      · intro wz hSw
        obtain ⟨⟨a0, a1, a2, a3, a4⟩, ⟨b0, b1, b2, b3, b4⟩, ⟨e0, e1, e2, e3, e4⟩⟩ := SH.out wz hSw
        go_simp
        (try with_reducible rfl)
      try simp only [Act.put, List.setIfInBounds_toArray, List.set_cons_zero, List.set_cons_succ]
      refine sinkw_take (i := 12) (d := some 29) (v := ?_) rfl rfl (by kernel_rfl) (by kernel_rfl) (fun _ _ _ h => h) (Or.inl ⟨by rfl, ?_⟩) (xP3.out) ?_
      rotate_left
      · intro wz hSw
        obtain ⟨⟨a0, a1, a2, a3, a4⟩, ⟨b0, b1, b2, b3, b4⟩, ⟨e0, e1, e2, e3, e4⟩⟩ := SH.out wz hSw
        go_simp
        (try with_reducible rfl)
      try simp only [Act.put, List.setIfInBounds_toArray, List.set_cons_zero, List.set_cons_succ]
      refine sinkw_take (i := 14) (d := some 31) (v := ?_) rfl rfl (by kernel_rfl) (by kernel_rfl) (fun _ _ _ h => h) (Or.inl ⟨by rfl, ?_⟩) (xP3.out) ?_
      rotate_left
      · intro wz hSw
        obtain ⟨⟨a0, a1, a2, a3, a4⟩, ⟨b0, b1, b2, b3, b4⟩, ⟨e0, e1, e2, e3, e4⟩⟩ := SH.out wz hSw
        go_simp
        (try with_reducible rfl)
      try simp only [Act.put, List.setIfInBounds_toArray, List.set_cons_zero, List.set_cons_succ]
      refine sinkw_one (i := 11) (by kernel_rfl) ?_
      refine wpOp_step rfl (fun K' hK => ?_)
      have HK := Lib.hid hK
      clear hK
      rw [if_pos (by rfl)]
      go_simp
      refine (slots11 40 (by omega) _ (bothT t u) _ RB.out.cnt (TE.out.call xP3.out)).mono ?_
      rintro e x4 ⟨rfl, hb⟩
      have xP4 := Lib.hid (xP3.out.trans (hb.mono xP3.out.size))
      clear hb
      rw [both_slt]
      refine HK.out _ _ ⟨Or.inr xP4.out, ?_⟩
      clear HK
      try change SinkW _ _ _ _ _ _ _ _ (Act.put _ (some 28) _) _
      try simp only [Act.put, List.setIfInBounds_toArray, List.set_cons_zero, List.set_cons_succ]
      refine sinkw_one (i := 13) (by kernel_rfl) ?_
      refine wpOp_step rfl (fun K' hK => ?_)
      have HK := Lib.hid hK
      clear hK
      rw [if_pos (by rfl)]
      go_simp
      refine (slots11 13 (by omega) _ t _ WT.out.2.1 (TN.out.call xP4.out)).mono ?_
      rintro e x5 ⟨rfl, hb⟩
      have xP5 := Lib.hid (xP4.out.trans (hb.mono xP4.out.size))
      clear hb
      refine HK.out _ _ ⟨Or.inr xP5.out, ?_⟩
      clear HK
      try change SinkW _ _ _ _ _ _ _ _ (Act.put _ (some 30) _) _
      try simp only [Act.put, List.setIfInBounds_toArray, List.set_cons_zero, List.set_cons_succ]
      refine sinkw_one (i := 15) (by kernel_rfl) ?_
      refine wpOp_step rfl (fun K' hK => ?_)
      have HK := Lib.hid hK
      clear hK
      rw [if_pos (by rfl)]
      go_simp
      refine (slots11 13 (by omega) _ u _ WU.out.2.1 (TM.out.call xP5.out)).mono ?_
      rintro e x6 ⟨rfl, hb⟩
      have xP6 := Lib.hid (xP5.out.trans (hb.mono xP5.out.size))
      clear hb
      refine HK.out _ _ ⟨Or.inr xP6.out, ?_⟩
      clear HK
      try change SinkW _ _ _ _ _ _ _ _ (Act.put _ (some 32) _) _
      try simp only [Act.put, List.setIfInBounds_toArray, List.set_cons_zero, List.set_cons_succ]
      refine sinkw_take (i := 16) (d := some 33) (v := ?_) rfl rfl (by kernel_rfl) (by kernel_rfl) (fun _ _ _ h => h) (Or.inl ⟨by rfl, ?_⟩) (xP6.out) ?_
      rotate_left
      · intro wz hSw
        obtain ⟨⟨a0, a1, a2, a3, a4⟩, ⟨b0, b1, b2, b3, b4⟩, ⟨e0, e1, e2, e3, e4⟩⟩ := SH.out wz hSw
        go_simp
        (try with_reducible rfl)
      try simp only [Act.put, List.setIfInBounds_toArray, List.set_cons_zero, List.set_cons_succ]
      refine sinkw_take (i := 17) (d := some 34) (v := ?_) rfl rfl (by kernel_rfl) (by kernel_rfl) (fun _ _ _ h => h) (Or.inl ⟨by rfl, ?_⟩) (xP6.out) ?_
      rotate_left
      · intro wz hSw
        obtain ⟨⟨a0, a1, a2, a3, a4⟩, ⟨b0, b1, b2, b3, b4⟩, ⟨e0, e1, e2, e3, e4⟩⟩ := SH.out wz hSw
        go_simp
        (try with_reducible rfl)
      try simp only [Act.put, List.setIfInBounds_toArray, List.set_cons_zero, List.set_cons_succ]
      refine sinkw_take (i := 18) (d := some 35) (v := ?_) rfl rfl (by kernel_rfl) (by kernel_rfl) (fun _ _ _ h => h) (Or.inl ⟨by rfl, ?_⟩) (xP6.out) ?_
      rotate_left
      · intro wz hSw
        obtain ⟨⟨a0, a1, a2, a3, a4⟩, ⟨b0, b1, b2, b3, b4⟩, ⟨e0, e1, e2, e3, e4⟩⟩ := SH.out wz hSw
        go_simp
        (try with_reducible rfl)
      try simp only [Act.put, List.setIfInBounds_toArray, List.set_cons_zero, List.set_cons_succ]
      refine sinkw_take (i := 19) (d := some 36) (v := ?_) rfl rfl (by kernel_rfl) (by kernel_rfl) (fun _ _ _ h => h) (Or.inl ⟨by rfl, ?_⟩) (xP6.out) ?_
      rotate_left
      · intro wz hSw
        obtain ⟨⟨a0, a1, a2, a3, a4⟩, ⟨b0, b1, b2, b3, b4⟩, ⟨e0, e1, e2, e3, e4⟩⟩ := SH.out wz hSw
        go_simp
        (try with_reducible rfl)
      try simp only [Act.put, List.setIfInBounds_toArray, List.set_cons_zero, List.set_cons_succ]
      refine sinkw_take (i := 20) (d := some 37) (v := ?_) rfl rfl (by kernel_rfl) (by kernel_rfl) (fun _ _ _ h => h) (Or.inl ⟨by rfl, ?_⟩) (xP6.out) ?_
      rotate_left
      · intro wz hSw
        obtain ⟨⟨a0, a1, a2, a3, a4⟩, ⟨b0, b1, b2, b3, b4⟩, ⟨e0, e1, e2, e3, e4⟩⟩ := SH.out wz hSw
        go_simp
        (try with_reducible rfl)
      try simp only [Act.put, List.setIfInBounds_toArray, List.set_cons_zero, List.set_cons_succ]
      refine sinkw_take (i := 22) (d := some 39) (v := ?_) rfl rfl (by kernel_rfl) (by kernel_rfl) (fun _ _ _ h => h) (Or.inl ⟨by rfl, ?_⟩) (xP6.out) ?_
      rotate_left
      · intro wz hSw
        obtain ⟨⟨a0, a1, a2, a3, a4⟩, ⟨b0, b1, b2, b3, b4⟩, ⟨e0, e1, e2, e3, e4⟩⟩ := SH.out wz hSw
        go_simp
        (try with_reducible rfl)
      try simp only [Act.put, List.setIfInBounds_toArray, List.set_cons_zero, List.set_cons_succ]
      refine sinkw_take (i := 24) (d := some 41) (v := ?_) rfl rfl (by kernel_rfl) (by kernel_rfl) (fun _ _ _ h => h) (Or.inl ⟨by rfl, ?_⟩) (xP6.out) ?_
      rotate_left
      · intro wz hSw
        obtain ⟨⟨a0, a1, a2, a3, a4⟩, ⟨b0, b1, b2, b3, b4⟩, ⟨e0, e1, e2, e3, e4⟩⟩ := SH.out wz hSw
        go_simp
        (try with_reducible rfl)
      try simp only [Act.put, List.setIfInBounds_toArray, List.set_cons_zero, List.set_cons_succ]
      refine sinkw_one (i := 21) (by kernel_rfl) ?_
      refine wpOp_step rfl (fun K' hK => ?_)
      have HK := Lib.hid hK
      clear hK
      rw [if_pos (by rfl)]
      go_simp
      refine (deep10 40 (by omega) _ (bothT t u) _ RB.out.cnt (TE.out.call xP6.out)).mono ?_
      rintro e x7 ⟨rfl, hb⟩
      have xP7 := Lib.hid (xP6.out.trans (hb.mono xP6.out.size))
      clear hb
      rw [both_dep, HMX.out]
      refine HK.out _ _ ⟨Or.inr xP7.out, ?_⟩
      clear HK
      try change SinkW _ _ _ _ _ _ _ _ (Act.put _ (some 38) _) _
      try simp only [Act.put, List.setIfInBounds_toArray, List.set_cons_zero, List.set_cons_succ]
      refine sinkw_one (i := 23) (by kernel_rfl) ?_
      refine wpOp_step rfl (fun K' hK => ?_)
      have HK := Lib.hid hK
      clear hK
      rw [if_pos (by rfl)]
      go_simp
      refine (deep10 13 (by omega) _ t _ WT.out.2.1 (TN.out.call xP7.out)).mono ?_
      rintro e x8 ⟨rfl, hb⟩
      have xP8 := Lib.hid (xP7.out.trans (hb.mono xP7.out.size))
      clear hb
      refine HK.out _ _ ⟨Or.inr xP8.out, ?_⟩
      clear HK
      try change SinkW _ _ _ _ _ _ _ _ (Act.put _ (some 40) _) _
      try simp only [Act.put, List.setIfInBounds_toArray, List.set_cons_zero, List.set_cons_succ]
      refine sinkw_one (i := 25) (by kernel_rfl) ?_
      refine wpOp_step rfl (fun K' hK => ?_)
      have HK := Lib.hid hK
      clear hK
      rw [if_pos (by rfl)]
      go_simp
      refine (deep10 13 (by omega) _ u _ WU.out.2.1 (TM.out.call xP8.out)).mono ?_
      rintro e x9 ⟨rfl, hb⟩
      have xP9 := Lib.hid (xP8.out.trans (hb.mono xP8.out.size))
      clear hb
      refine HK.out _ _ ⟨Or.inr xP9.out, ?_⟩
      clear HK
      try change SinkW _ _ _ _ _ _ _ _ (Act.put _ (some 42) _) _
      try simp only [Act.put, List.setIfInBounds_toArray, List.set_cons_zero, List.set_cons_succ]
      refine sinkw_take (i := 26) (d := some 43) (v := ?_) rfl rfl (by kernel_rfl) (by kernel_rfl) (fun _ _ _ h => h) (Or.inl ⟨by rfl, ?_⟩) (xP9.out) ?_
      rotate_left
      · intro wz hSw
        obtain ⟨⟨a0, a1, a2, a3, a4⟩, ⟨b0, b1, b2, b3, b4⟩, ⟨e0, e1, e2, e3, e4⟩⟩ := SH.out wz hSw
        go_simp
        (try with_reducible rfl)
      try simp only [Act.put, List.setIfInBounds_toArray, List.set_cons_zero, List.set_cons_succ]
      refine sinkw_take (i := 27) (d := some 44) (v := ?_) rfl rfl (by kernel_rfl) (by kernel_rfl) (fun _ _ _ h => h) (Or.inl ⟨by rfl, ?_⟩) (xP9.out) ?_
      rotate_left
      · intro wz hSw
        obtain ⟨⟨a0, a1, a2, a3, a4⟩, ⟨b0, b1, b2, b3, b4⟩, ⟨e0, e1, e2, e3, e4⟩⟩ := SH.out wz hSw
        go_simp
        (try with_reducible rfl)
      try simp only [Act.put, List.setIfInBounds_toArray, List.set_cons_zero, List.set_cons_succ]
      refine sinkw_take (i := 28) (d := some 45) (v := ?_) rfl rfl (by kernel_rfl) (by kernel_rfl) (fun _ _ _ h => h) (Or.inl ⟨by rfl, ?_⟩) (xP9.out) ?_
      rotate_left
      · intro wz hSw
        obtain ⟨⟨a0, a1, a2, a3, a4⟩, ⟨b0, b1, b2, b3, b4⟩, ⟨e0, e1, e2, e3, e4⟩⟩ := SH.out wz hSw
        go_simp
        (try with_reducible rfl)
      try simp only [Act.put, List.setIfInBounds_toArray, List.set_cons_zero, List.set_cons_succ]
      refine sinkw_one (i := 29) (by kernel_rfl) ?_
      refine wpOp_step rfl (fun K' hK => ?_)
      have HK := Lib.hid hK
      clear hK
      rw [if_pos (by rfl)]
      go_simp
      refine HK.out _ _ ⟨Or.inr xP9.out, ?_⟩
      clear HK
      try change SinkW _ _ _ _ _ _ _ _ (Act.put _ (some 46) _) _
      try simp only [Act.put, List.setIfInBounds_toArray, List.set_cons_zero, List.set_cons_succ]
      refine sinkw_done (by kernel_rfl) ?_
      have PE := xP9.out
      clear SH
      go_wp2_with fail
      go_meet
      exact ⟨rfl, PE⟩
    case rest =>
      obtain ⟨rfl, hz⟩ := hcut
      have BC := Lib.hid hz
      have hbn := blk_call XN.out BC.out
      obtain ⟨r0, r1, r2, r3, r4⟩ := cells5_at hbn
      clear hz SH
      obtain ⟨zd, hzd⟩ : ∃ zd, wc.heap.size = zd := ⟨_, rfl⟩
      have hbd := (Below.refl wc.heap.size wc).alloc (Nat.le_refl _) (.cells #[.string g, .string k, .string x, .slice A n a, .slice K m c] 27 (0, 0))
      have xd := blk_new wc (.cells #[.string g, .string k, .string x, .slice A n a, .slice K m c] 27 (0, 0))
      have ZD : Hid (zc + 2 ≤ zd) := by rw [← hzd, ← SZ.out]; exact Lib.hid BC.out.size
      have TE3 := (TE.out.call BC.out).call hbd
      have TN3 := (TN.out.call BC.out).call hbd
      have XE3 := Lib.hid (blk_call (blk_call XE.out BC.out) hbd)
      have B3 := Lib.hid ((B2.out.trans (BC.out.mono B2.out.size)).trans (hbd.mono (Nat.le_trans B2.out.size BC.out.size)))
      have zw : w.heap.size ≤ zd := by rw [← hzd]; exact Nat.le_trans B2.out.size BC.out.size
      have ZW := Lib.hid zw
      go_upto_block 0 with fail
      generalize wc.alloc _ = w3 at *
      rw [hzd] at xd
      try rw [hzd]
      have TD : Hid (Ts (fun k => k ≠ zd) w3 zd t) := Lib.hid ⟨g, k, x, A, n, a, K, m, c, xd, TN3.mono (fun k hk _ => by have := ZD.out; omega)⟩
      have TE4 : Hid (TrW (fun k => k ≠ zd) w3 (.agg #[.string ⟨#[120]⟩, .string ⟨#[]⟩, .string ⟨#[]⟩, .slice none 0 0, .slice (some ⟨zc, 0, none⟩) 2 2]) (bothT t u)) := Lib.hid (TE3.mono (fun k hk _ => by have := ZD.out; omega))
      clear xd hbd hzd hbn r0 r1 r2 r3 r4 TE3 TN3 zw
      clear i1 i2 i3 i4 i5 XN XM XE TN TM TE
      go_cut [48] from 49 (fun v48 wz => ∃ td, Ts (fun k => k ≠ zd) wz zd td ∧ Rgh td ∧ Kp (fun k => k = zd) w3 wz)
      case first =>
        go_wp2_with fail
        go_loopg [55] 40 (fun gg s55 wr => ∃ td, Hid (Ts (fun k => k ≠ zd) wr zd td) ∧ Hid (Rgh td) ∧ Hid (Kp (fun k => k = zd) w3 wr) ∧ 40 - td.cnt ≤ gg)
        case atStart => exact ⟨t, TD, Lib.hid WT.out.rgh, Lib.hid (Kp.refl _ w3), by omega⟩
        case round =>
          obtain ⟨td, TD', RD, KD, hgg⟩ := hrel
          obtain ⟨g5, k5, x5, A5', n5', a5, K5, m5, c5', hX5, hT5⟩ := TD'.out
          have XD := Lib.hid hX5
          have T5 := Lib.hid hT5
          obtain ⟨r0, r1, r2, r3, r4⟩ := cells5_at hX5
          clear hX5 hT5
          go_wp2_with fail
          refine (deep10 40 (by omega) _ td _ RD.out.cnt T5.out).mono ?_
          rintro e wa ⟨rfl, hba⟩
          have BA := Lib.hid hba
          clear hba r0 r1 r2 r3 r4
          by_cases hd : td.dep < 12
          · have q1 : (td.dep : Int) < 12 := by omega
            have HD := Lib.hid hd
            obtain ⟨r0, r1, r2, r3, r4⟩ := cells5_at (blk_call XD.out BA.out)
            clear hd
            go_wp2_with fail
            refine (count9 40 (by omega) _ td _ RD.out.cnt (T5.out.call BA.out)).mono ?_
            rintro e wb ⟨rfl, hbb⟩
            have BB := Lib.hid (BA.out.trans (hbb.mono BA.out.size))
            clear hbb r0 r1 r2 r3 r4 q1
            have XB := Lib.hid (blk_call XD.out BB.out)
            have KB := Lib.hid (KD.out.trans (Kp.of_below BB.out _) (fun i _ h => h))
            by_cases hc : td.cnt < 40
            · have q2 : (td.cnt : Int) < 40 := by omega
              have HC := Lib.hid hc
              obtain ⟨r0, r1, r2, r3, r4⟩ := cells5_at XB.out
              have XB2 := blk_alloc XB.out (.cells #[.string g5, .string k5, .string x5, .slice A5' n5' a5, .slice K5 m5 c5'] 27 (0, 0))
              obtain ⟨s0, s1, s2, s3, s4⟩ := cells5_at XB2
              have f0 := blk_frozen XB2 0
              have f1 := blk_frozen XB2 1
              have f2 := blk_frozen XB2 2
              have f3 := blk_frozen XB2 3
              have f4 := blk_frozen XB2 4
              clear XB2
              clear hc
              go_wp2_with fail
              generalize hw9 : (((((wb.alloc _).setCell _ _).setCell _ _).setCell _ _).setCell _ _).setCell _ _ = w9 at *
              have hup := up_store tgY XB.out (T5.out.call BB.out) hw9
              clear r0 r1 r2 r3 r4 s0 s1 s2 s3 s4 f0 f1 f2 f3 f4 hw9
              go_roundg (40 - (upY td).cnt)
              case rel => exact ⟨upY td, Lib.hid hup.1, Lib.hid (rgh_up RD.out HD.out HC.out), Lib.hid (KB.out.trans hup.2 (fun i _ h => h)), Nat.le_refl _⟩
              case measure => rw [up_cnt]; have := HC.out; omega
            · have q2 : (40 : Int) ≤ td.cnt := by omega
              go_wp2_with fail
              go_meet
              exact ⟨td, ⟨_, _, _, _, _, _, _, _, _, XB.out, T5.out.call BB.out⟩, RD.out, KB.out⟩
          · have q1 : (12 : Int) ≤ td.dep := by omega
            go_wp2_with fail
            go_meet
            exact ⟨td, ⟨_, _, _, _, _, _, _, _, _, blk_call XD.out BA.out, T5.out.call BA.out⟩, RD.out, KD.out.trans (Kp.of_below BA.out _) (fun i _ h => h)⟩
      case rest =>
        obtain ⟨td, hTd, hR, hK⟩ := hcut
        obtain ⟨g5, k5, x5, A5', n5', a5, K5, m5, c5', hX5, hT5⟩ := hTd
        have XD := Lib.hid hX5
        have T5 := Lib.hid hT5
        have RD := Lib.hid hR
        have XE4 := Lib.hid ((hK.block _ (blk_lt XE3.out) (by have := ZD.out; omega)).trans XE3.out)
        have TE5 := Lib.hid (TE4.out.frame (fun k hk hl => hK.block k hl hk))
        have B4 := Lib.hid (B3.out.trans (hK.below B3.out.size (fun k hk e => by have := ZW.out; omega)))
        obtain ⟨r0, r1, r2, r3, r4⟩ := cells5_at hX5
        clear hX5 hT5 hR hK
        go_wp2_with fail
        refine (right7 _ td _ T5.out RD.out.nds).mono ?_
        rintro e wa ⟨rfl, hba⟩
        have BA := Lib.hid hba
        clear hba r0 r1 r2 r3 r4
        rw [RD.out.rt]
        obtain ⟨r0, r1, r2, r3, r4⟩ := cells5_at (blk_call XE4.out BA.out)
        go_wp2_with fail
        refine (right7 _ (bothT t u) _ (TE5.out.call BA.out) RB.out.nds).mono ?_
        rintro e wb ⟨rfl, hbb⟩
        have BB := Lib.hid (BA.out.trans (hbb.mono BA.out.size))
        clear hbb r0 r1 r2 r3 r4
        rw [RB.out.rt]
        go_upto_region 10 with fail
        go_cut [75] from 76 (fun v75 wz => v75 = .bool false ∧ Below wb.heap.size wb wz)
        case first =>
          obtain ⟨r0, r1, r2, r3, r4⟩ := cells5_at (blk_call XD.out BB.out)
          go_wp2_with fail
          refine (deep10 40 (by omega) _ td _ RD.out.cnt (T5.out.call BB.out)).mono ?_
          rintro e wd ⟨rfl, hbd⟩
          have BD0 := Lib.hid hbd
          have BD := Lib.hid (BB.out.trans (hbd.mono BB.out.size))
          clear hbd r0 r1 r2 r3 r4
          by_cases hd : td.dep = 12
          · have HD := Lib.hid hd
            rw [hd]
            clear hd
            have XB := Lib.hid (blk_call XD.out BD.out)
            obtain ⟨r0, r1, r2, r3, r4⟩ := cells5_at XB.out
            go_wp2_with fail
            have hbe := (Below.refl wd.heap.size wd).alloc (Nat.le_refl _) (.cells #[.string g5, .string k5, .string x5, .slice A5' n5' a5, .slice K5 m5 c5'] 27 (0, 0))
            have TU : TrW (fun _ => True) (wd.alloc (.cells #[.string g5, .string k5, .string x5, .slice A5' n5' a5, .slice K5 m5 c5'] 27 (0, 0))) _ (upY td) := trw_one (g := tgY) (k := ⟨#[]⟩) (x := ⟨#[]⟩) (at_nil _ _) (by simp) (Nat.le_refl 1) trivial (blk_new wd (.cells #[.string g5, .string k5, .string x5, .slice A5' n5' a5, .slice K5 m5 c5'] 27 (0, 0))) (((T5.out.call BD.out).call hbe).mono (fun _ _ _ => trivial))
            refine (right7 _ (upY td) _ TU (up_all RD.out.nds (up_nds td))).mono ?_
            rintro e wf ⟨rfl, hbf⟩
            rw [up_bad HD.out]
            have BF := Lib.hid ((BD0.out.trans (hbe.mono BD0.out.size)).trans (hbf.mono (Nat.le_trans BD0.out.size hbe.size)))
            clear hbe TU hbf r0 r1 r2 r3 r4
            go_wp2_with fail
            go_meet
            exact ⟨rfl, BF.out⟩
          · have q1 : ((td.dep : Int) == 12) = false := by simp; omega
            go_wp2_with fail
            go_meet
            exact ⟨rfl, BD0.out⟩
        case rest =>
          obtain ⟨rfl, hz⟩ := hcut
          have BC2 := Lib.hid (BB.out.trans (hz.mono BB.out.size))
          clear hz
          have XE6 := Lib.hid (blk_call XE4.out BC2.out)
          have TE6 := Lib.hid (TE5.out.call BC2.out)
          have B6 := Lib.hid (B4.out.trans (BC2.out.mono B4.out.size))
          clear XE4 TE5 XD T5 TE4
          have SH := Lib.hid (fun W (hW : Below wc.heap.size wc W) => cells5_at (blk_call XE6.out hW))
          go_wp2_with fail
          have P0 : Hid (Below wc.heap.size wc wc.drew) := Lib.hid ((Below.refl _ _).drew)
          refine wp_region_pre 12 (0 :: 1 :: []) 11 (fun W => Below wc.heap.size wc W) (by kernel_rfl) (by kernel_rfl) (by decide) (by kernel_rfl) (fun d _ _ _ _ h => by cases d <;> exact h) (P0.out) ?_
          refine pre_q (d := some 76) (v := ?_) rfl rfl (Or.inl ⟨by rfl, ?_⟩) ?_
          rotate_left
          · intro wz hSw
            obtain ⟨e0, e1, e2, e3, e4⟩ := SH.out wz hSw
            go_simp
            (try with_reducible rfl)
          try simp only [Act.put, List.setIfInBounds_toArray, List.set_cons_zero, List.set_cons_succ]
          refine pre_q (d := some 77) (v := ?_) rfl rfl (Or.inl ⟨by rfl, ?_⟩) ?_
          rotate_left
          · intro wz hSw
            obtain ⟨e0, e1, e2, e3, e4⟩ := SH.out wz hSw
            go_simp
            (try with_reducible rfl)
          try simp only [Act.put, List.setIfInBounds_toArray, List.set_cons_zero, List.set_cons_succ]
          refine pre_nil ?_
          refine sinkw_one (i := 2) (by kernel_rfl) ?_
          refine wpOp_step rfl (fun K' hK => ?_)
          have HK := Lib.hid hK
          clear hK
          rw [if_pos (by rfl)]
          go_simp
          refine (copy13 40 _ _ (bothT t u) _ RB.out.cnt (TE6.out.call P0.out)).mono ?_
          intro e y0 hcp
          obtain ⟨v, rfl, hv, hb⟩ := hcp.tree
          have Q0 := Lib.hid (P0.out.trans (hb.mono P0.out.size))
          have TV := Lib.hid hv
          clear hv hb hcp
          refine HK.out _ _ ⟨Or.inr Q0.out, ?_⟩
          clear HK
          try change SinkW _ _ _ _ _ _ _ _ (Act.put _ (some 78) _) _
          try simp only [Act.put, List.setIfInBounds_toArray, List.set_cons_zero, List.set_cons_succ]
          refine sinkw_one (i := 3) (by kernel_rfl) ?_
          refine wpOp_step rfl (fun K' hK => ?_)
          have HK := Lib.hid hK
          clear hK
          rw [if_pos (by rfl)]
          go_simp
          refine (same16 40 _ _ _ _ (bothT t u) (bothT t u) _ RB.out.cnt (TE6.out.call Q0.out) TV.out).mono ?_
          rintro e y1 ⟨rfl, hb⟩
          have yP1 := Lib.hid (Q0.out.trans (hb.mono Q0.out.size))
          clear hb
          rw [trB_true rfl]
          refine HK.out _ _ ⟨Or.inr yP1.out, ?_⟩
          clear HK
          try change SinkW _ _ _ _ _ _ _ _ (Act.put _ (some 79) _) _
          try simp only [Act.put, List.setIfInBounds_toArray, List.set_cons_zero, List.set_cons_succ]
          refine sinkw_take (i := 4) (d := some 80) (v := ?_) rfl rfl (by kernel_rfl) (by kernel_rfl) (fun _ _ _ h => h) (Or.inl ⟨by rfl, ?_⟩) (yP1.out) ?_
          rotate_left
          · intro wz hSw
            obtain ⟨e0, e1, e2, e3, e4⟩ := SH.out wz hSw
            go_simp
            (try with_reducible rfl)
          try simp only [Act.put, List.setIfInBounds_toArray, List.set_cons_zero, List.set_cons_succ]
          refine sinkw_take (i := 5) (d := some 81) (v := ?_) rfl rfl (by kernel_rfl) (by kernel_rfl) (fun _ _ _ h => h) (Or.inl ⟨by rfl, ?_⟩) (yP1.out) ?_
          rotate_left
          · intro wz hSw
            obtain ⟨e0, e1, e2, e3, e4⟩ := SH.out wz hSw
            go_simp
            (try with_reducible rfl)
          try simp only [Act.put, List.setIfInBounds_toArray, List.set_cons_zero, List.set_cons_succ]
          refine sinkw_one (i := 6) (by kernel_rfl) ?_
          refine wpOp_step rfl (fun K' hK => ?_)
          have HK := Lib.hid hK
          clear hK
          rw [if_pos (by rfl)]
          go_simp
          refine (count9 10 (by omega) _ tr0 _ (by unfold tr0; simp [Tr.cnt, cntL]) (trw_leaf (p := fun _ => True) (g := ⟨#[]⟩) (k := ⟨#[]⟩) (x := ⟨#[]⟩) (at_nil _ _) (by simp))).mono ?_
          rintro e y2 ⟨rfl, hb⟩
          have yP2 := Lib.hid (yP1.out.trans (hb.mono yP1.out.size))
          clear hb
          rw [show tr0.cnt = 1 by unfold tr0; simp [Tr.cnt, cntL]]
          refine HK.out _ _ ⟨Or.inr yP2.out, ?_⟩
          clear HK
          try change SinkW _ _ _ _ _ _ _ _ (Act.put _ (some 82) _) _
          try simp only [Act.put, List.setIfInBounds_toArray, List.set_cons_zero, List.set_cons_succ]
          refine sinkw_take (i := 7) (d := some 83) (v := ?_) rfl rfl (by kernel_rfl) (by kernel_rfl) (fun _ _ _ h => h) (Or.inl ⟨by rfl, ?_⟩) (yP2.out) ?_
          rotate_left
          · intro wz hSw
            obtain ⟨e0, e1, e2, e3, e4⟩ := SH.out wz hSw
            go_simp
            (try with_reducible rfl)
          try simp only [Act.put, List.setIfInBounds_toArray, List.set_cons_zero, List.set_cons_succ]
          refine sinkw_take (i := 8) (d := some 84) (v := ?_) rfl rfl (by kernel_rfl) (by kernel_rfl) (fun _ _ _ h => h) (Or.inl ⟨by rfl, ?_⟩) (yP2.out) ?_
          rotate_left
          · intro wz hSw
            obtain ⟨e0, e1, e2, e3, e4⟩ := SH.out wz hSw
            go_simp
            (try with_reducible rfl)
          try simp only [Act.put, List.setIfInBounds_toArray, List.set_cons_zero, List.set_cons_succ]
          refine sinkw_take (i := 9) (d := some 85) (v := ?_) rfl rfl (by kernel_rfl) (by kernel_rfl) (fun _ _ _ h => h) (Or.inl ⟨by rfl, ?_⟩) (yP2.out) ?_
          rotate_left
          · intro wz hSw
            obtain ⟨e0, e1, e2, e3, e4⟩ := SH.out wz hSw
            go_simp
            (try with_reducible rfl)
          try simp only [Act.put, List.setIfInBounds_toArray, List.set_cons_zero, List.set_cons_succ]
          refine sinkw_one (i := 10) (by kernel_rfl) ?_
          refine wpOp_step rfl (fun K' hK => ?_)
          have HK := Lib.hid hK
          clear hK
          rw [if_pos (by rfl)]
          go_simp
          refine (runs3 _).mono ?_
          rintro e y3 ⟨rfl, hb⟩
          have yP3 := Lib.hid (yP2.out.trans (hb.mono yP2.out.size))
          clear hb
          refine HK.out _ _ ⟨Or.inr yP3.out, ?_⟩
          clear HK
          try change SinkW _ _ _ _ _ _ _ _ (Act.put _ (some 86) _) _
          try simp only [Act.put, List.setIfInBounds_toArray, List.set_cons_zero, List.set_cons_succ]
          refine sinkw_take (i := 11) (d := some 87) (v := ?_) rfl rfl (by kernel_rfl) (by kernel_rfl) (fun _ _ _ h => h) (Or.inl ⟨by rfl, ?_⟩) (yP3.out) ?_
          rotate_left
          · intro wz hSw
            obtain ⟨e0, e1, e2, e3, e4⟩ := SH.out wz hSw
            go_simp
            (try with_reducible rfl)
          try simp only [Act.put, List.setIfInBounds_toArray, List.set_cons_zero, List.set_cons_succ]
          refine sinkw_one (i := 12) (by kernel_rfl) ?_
          refine wpOp_step rfl (fun K' hK => ?_)
          have HK := Lib.hid hK
          clear hK
          rw [if_pos (by rfl)]
          go_simp
          refine HK.out _ _ ⟨Or.inr yP3.out, ?_⟩
          clear HK
          try change SinkW _ _ _ _ _ _ _ _ (Act.put _ (some 4) _) _
          try simp only [Act.put, List.setIfInBounds_toArray, List.set_cons_zero, List.set_cons_succ]
          refine sinkw_done (by kernel_rfl) ?_
          have PE := Lib.hid (B6.out.trans (yP3.out.mono B6.out.size))
          clear SH
          go_wp2_with fail
          go_ret
          exact ⟨rfl, PE.out⟩
end Go.Proofs.Ytolklphenllhpaa
