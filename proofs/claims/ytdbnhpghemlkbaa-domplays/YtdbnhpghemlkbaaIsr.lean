/-
  Insert.
-/
import Derived.Test.YtdbnhpghemlkbaaDet
import Derived.Deep.CutBlock
import Derived.Deep.DeepCutAuto
namespace Go.Proofs.Ytdbnhpghemlkbaa
open Go.RowKit Go.PlainAid Dm
set_option maxRecDepth 100000

section
variable {ro : Ros} {D : Nat} {s : St}
theorem lives_kind (hv : Inv s) (i : Int) : s.lives i = true ↔ kindI (ndI s i) ≠ 0 := by
  rw [Ne, kind0, ndI_live hv]
  cases s.lives i <;> simp
set_option maxHeartbeats 3200000 in
theorem insert10_no (p c at_ : Int) (w : World) (h : Dom mP ro w D s) (hv : Inv s) (hm : ¬ s.mayInsert p c) :
    Calls Try.prog 10 #[.pointer (some ⟨D, 0, none⟩), .int .i64 p, .int .i64 c, .int .i64 at_] w (No w) := by
  have G1 := Lib.hid (get34 p w h hv)
  have H := Lib.hid h
  have V := Lib.hid hv
  by_cases k1 : kindI (ndI s p) = 1
  · have q1 : (kindI (ndI s p) != 1) = false := by rw [k1]; rfl
    by_cases k2 : kindI (ndI s c) = 0
    · clear h hv hm k1
      go_enter Try.func10, Try.ntmps10
      go_wp2_with fail
      refine G1.out.mono ?_
      rintro e w1 ⟨a1, b1, rfl, ha, hb1, hb⟩
      obtain ⟨A, a, rfl, _, _⟩ := ha.shape
      obtain ⟨K, k, rfl, _, _⟩ := hb1.shape
      clear ha hb1
      have HB := Lib.hid hb
      have G2 := Lib.hid (get34 c w1 (H.out.call hb) V.out)
      clear hb
      go_wp2_with fail
      refine G2.out.mono ?_
      rintro e w2 ⟨a1, b1, rfl, ha, hb1, hb⟩
      obtain ⟨A2, a2, rfl, _, _⟩ := ha.shape
      obtain ⟨K2, k2', rfl, _, _⟩ := hb1.shape
      rw [k2]
      clear ha hb1 k2
      have HB2 := Lib.hid (HB.out.trans (hb.mono HB.out.size))
      clear hb
      go_wp2
      go_ret
      exact ⟨rfl, HB2.out⟩
    · have q2 : (kindI (ndI s c) == 0) = false := beqF k2
      by_cases k3 : c = 1
      · subst k3
        clear h hv hm k1
        go_enter Try.func10, Try.ntmps10
        go_wp2_with fail
        refine G1.out.mono ?_
        rintro e w1 ⟨a1, b1, rfl, ha, hb1, hb⟩
        obtain ⟨A, a, rfl, _, _⟩ := ha.shape
        obtain ⟨K, k, rfl, _, _⟩ := hb1.shape
        clear ha hb1
        have HB := Lib.hid hb
        have G2 := Lib.hid (get34 1 w1 (H.out.call hb) V.out)
        clear hb
        go_wp2_with fail
        refine G2.out.mono ?_
        rintro e w2 ⟨a1, b1, rfl, ha, hb1, hb⟩
        obtain ⟨A2, a2, rfl, _, _⟩ := ha.shape
        obtain ⟨K2, k2', rfl, _, _⟩ := hb1.shape
        clear ha hb1
        have HB2 := Lib.hid (HB.out.trans (hb.mono HB.out.size))
        clear hb
        go_wp2
        go_ret
        exact ⟨rfl, HB2.out⟩
      · have q3 : (c == 1) = false := beqF k3
        have hlp : s.lives p = true := (lives_kind hv p).2 (by rw [k1]; decide)
        have hlc : s.lives c = true := (lives_kind hv c).2 k2
        have hh : s.holds c.toNat p.toNat := by
          by_cases e : s.holds c.toNat p.toNat
          · exact e
          · exact absurd ⟨hlp, hlc, (kind1.1 (by rw [← ndI_at hlp]; exact k1)).2, k3, e⟩ hm
        obtain ⟨p', rfl, hp, ep, _⟩ := lives_nat hv hlp
        obtain ⟨c', rfl, hc, ec, hc0⟩ := lives_nat hv hlc
        rw [ep, ec] at hh
        have E : Hid (hldB s c' p' = true) := hldB_true.2 hh
        clear h hv hm k1 hh
        go_enter Try.func10, Try.ntmps10
        go_wp2_with fail
        refine G1.out.mono ?_
        rintro e w1 ⟨a1, b1, rfl, ha, hb1, hb⟩
        obtain ⟨A, a, rfl, _, _⟩ := ha.shape
        obtain ⟨K, k, rfl, _, _⟩ := hb1.shape
        clear ha hb1
        have HB := Lib.hid hb
        have H1 := Lib.hid (H.out.call hb)
        have G2 := Lib.hid (get34 c' w1 H1.out V.out)
        clear hb
        go_wp2_with fail
        refine G2.out.mono ?_
        rintro e w2 ⟨a1, b1, rfl, ha, hb1, hb⟩
        obtain ⟨A2, a2, rfl, _, _⟩ := ha.shape
        obtain ⟨K2, k2', rfl, _, _⟩ := hb1.shape
        clear ha hb1
        have HB2 := Lib.hid (HB.out.trans (hb.mono HB.out.size))
        have H2 := Lib.hid (H1.out.call hb)
        clear hb
        go_wp2_with fail
        refine (holds35 c' p' w2 H2.out V.out hc hp hc0).mono ?_
        rintro e w2 ⟨rfl, rfl⟩
        rw [E.out]
        go_wp2
        go_ret
        exact ⟨rfl, HB2.out⟩
  · have q1 : (kindI (ndI s p) != 1) = true := bneT k1
    clear h hv hm k1
    go_enter Try.func10, Try.ntmps10
    go_wp2_with fail
    refine G1.out.mono ?_
    rintro e w1 ⟨a1, b1, rfl, ha, hb1, hb⟩
    obtain ⟨A, a, rfl, _, _⟩ := ha.shape
    obtain ⟨K, k, rfl, _, _⟩ := hb1.shape
    clear ha hb1
    have HB := Lib.hid hb
    clear hb
    go_wp2
    go_ret
    exact ⟨rfl, HB.out⟩

theorem atN_eq (a : Int) (n : Nat) : max 0 (min a (n : Int)) = (atN a n : Nat) := by
  unfold atN
  split
  · omega
  · split <;> omega
theorem attach_eq (s : St) {p c k : Nat} (h : p ≠ c) : (s.put p { s.nd p with kids := insL (s.nd p).kids k c }).put c { (s.put p { s.nd p with kids := insL (s.nd p).kids k c }).nd c with par := p } = s.attach p c k := by
  rw [St.put_ne s _ (Ne.symm h)]
  rfl

set_option maxHeartbeats 6400000 in
theorem insert10_yes (p x : Nat) (at_ : Int) (w : World) (h : Dom mP ro w D s) (hv : Inv s) (hm : s.mayInsert p x) (ht : s.top ≤ 1000000) :
    Calls Try.prog 10 #[.pointer (some ⟨D, 0, none⟩), .int .i64 p, .int .i64 x, .int .i64 at_] w (Yes mP ro D (s.insert p x at_) w) := by
  have G1 := Lib.hid (get34 p w h hv)
  have H := Lib.hid h
  have V := Lib.hid hv
  obtain ⟨hlp, hlc, htg, hx1, hnh⟩ := hm
  rw [Int.toNat_natCast] at htg hnh
  rw [Int.toNat_natCast] at hnh
  obtain ⟨p', ep', hp, _, _⟩ := lives_nat hv hlp
  obtain ⟨c', ec', hx, _, hx0⟩ := lives_nat hv hlc
  obtain rfl : p = p' := by omega
  obtain rfl : x = c' := by omega
  have k1 : kindI (ndI s (p : Int)) = 1 := by
    rw [ndI_at hlp, Int.toNat_natCast]
    have := (lives_spec hlp).2.1
    rw [Int.toNat_natCast] at this
    exact kind1.2 ⟨this, htg⟩
  have q1 : (kindI (ndI s (p : Int)) != 1) = false := by rw [k1]; rfl
  have q2 : (kindI (ndI s (x : Int)) == 0) = false := beqF ((lives_kind hv _).1 hlc)
  have q3 : ((x : Int) == 1) = false := beqF hx1
  have E : Hid (hldB s x p = false) := hldB_false.2 hnh
  have hne : p ≠ x := fun e => hnh (e ▸ holds_self (by omega))
  have HLC := Lib.hid hlc
  clear h hv k1 hnh hlp hlc htg hx1 ep' ec'
  go_enter Try.func10, Try.ntmps10
  go_wp2_with fail
  refine G1.out.mono ?_
  rintro e w1 ⟨a1, b1, rfl, ha, hb1, hb⟩
  obtain ⟨A, a, rfl, _, _⟩ := ha.shape
  obtain ⟨K, k, rfl, _, _⟩ := hb1.shape
  clear ha hb1
  have HB := Lib.hid hb
  have H1 := Lib.hid (H.out.call hb)
  have G2 := Lib.hid (get34 x w1 H1.out V.out)
  clear hb
  go_wp2_with fail
  refine G2.out.mono ?_
  rintro e w2 ⟨a1, b1, rfl, ha, hb1, hb⟩
  obtain ⟨A2, a2, rfl, _, _⟩ := ha.shape
  obtain ⟨K2, k2', rfl, _, _⟩ := hb1.shape
  clear ha hb1
  have HB2 := Lib.hid (HB.out.trans (hb.mono HB.out.size))
  have H2 := Lib.hid (H1.out.call hb)
  clear hb
  go_wp2_with fail
  refine (holds35 x p w2 H2.out V.out hx hp hx0).mono ?_
  rintro e w2 ⟨rfl, rfl⟩
  rw [E.out]
  go_wp2_with fail
  refine (detachL x _ H2.out V.out HLC.out ht).mono ?_
  rintro e w4 ⟨⟨bb, rfl⟩, ro1, hD4, o4, m4, k4⟩
  have V1 := Lib.hid (inv_loosen V.out x)
  have hkl := kids_len V1.out p
  have IN : Hid (s.insert p x at_ = (s.loosen x).attach p x (atN at_ ((s.loosen x).nd p).kids.length)) := rfl
  have ht1 : (s.loosen x).top = s.top := by unfold St.loosen; split <;> rfl
  rw [ht1] at hkl
  replace ht1 := Lib.hid ht1
  generalize s.loosen x = s1 at *
  have hp1 : p ≤ s1.top := by rw [ht1.out]; exact hp
  have hx1 : x ≤ s1.top := by rw [ht1.out]; exact hx
  have hp := hp1
  obtain ⟨N, c, fv, av, kv, hR⟩ := hD4
  have R1 := Lib.hid hR
  have O4 := Lib.hid o4
  have M4 := Lib.hid m4
  have K4 := Lib.hid k4
  clear hR o4 m4 k4 H H1 H2 G1 G2 hp1
  have hp2 : (p : Int) < (s1.top : Int) + 1 := by omega
  have c0 := R1.out.c0
  obtain ⟨_, _, _, _, _, _, n6⟩ := R1.out.nc hp
  obtain ⟨K2, k2, e2, _, _⟩ := (R1.out.ki p hp).shape
  have n6s := n6
  rw [e2] at n6
  have KO := (R1.out.ki p hp).1
  have KR := (R1.out.ki p hp).2
  rw [e2] at KO KR
  replace KO := Lib.hid KO
  replace KR := Lib.hid KR
  go_upto_region 5 with fail
  obtain ⟨kk, hkk0⟩ : ∃ kk, kk = atN at_ (s1.nd p).kids.length := ⟨_, rfl⟩
  have hkk : kk ≤ (s1.nd p).kids.length := by
    rw [hkk0]
    unfold atN
    split
    · omega
    · split <;> omega
  have KK := Lib.hid hkk0
  clear hkk0
  go_cut [3] (fun s3 wz => s3 = .int .i64 kk ∧ wz = w4)
  case first =>
    go_wp2_with fail
    go_meet
    refine ⟨?_, rfl⟩
    rw [KK.out, atN_eq]
  case rest =>
    obtain ⟨rfl, hwc⟩ := hcut
    subst hwc
    generalize wc = w4 at *
    have IN2 := IN.out
    rw [← KK.out] at IN2
    replace IN := Lib.hid IN2
    clear IN2
    have AE := Lib.hid (attach_eq s1 (k := kk) hne)
    obtain ⟨L, LE⟩ : ∃ L, insL (s1.nd p).kids kk x = L := ⟨_, rfl⟩
    rw [LE] at AE
    replace LE := Lib.hid LE
    have SS : ∀ W, Kp (fun k => ro1 k = 5 + p) w4 W → W.cell? ⟨D, 0, none⟩ = some (.slice (some ⟨N, 0, none⟩) (s1.top + 1) c) ∧ W.cell? ⟨N, p * 7 + 6, none⟩ = some (kv p) ∧ W.frozen? ⟨N, p * 7 + 6, none⟩ = false := by
      intro W hW
      have hD : ¬ ro1 D = 5 + p := by rw [R1.out.rD]; omega
      have hN : ¬ ro1 N = 5 + p := by rw [R1.out.rN]; omega
      exact ⟨by rw [hW.cell R1.out.dlt hD]; exact R1.out.c0, by rw [hW.cell R1.out.nlt hN]; exact n6s, by rw [hW.frozen R1.out.nlt hN]; exact R1.out.nf _⟩
    have SH := Lib.hid SS
    clear SS c0 n6 n6s e2
    go_upto_region 6 with fail
    refine wp_region_ordN 12 ((true, 0) :: (true, 1) :: (true, 2) :: (true, 3) :: (true, 4) :: (true, 5) :: (true, 6) :: (true, 7) :: (false, 8) :: (false, 9) :: (true, 10) :: (true, 11) :: (false, 12) :: []) (fun W => Kp (fun k => ro1 k = 5 + p) w4 W) (by kernel_rfl) (by kernel_rfl) (by decide) (by kernel_rfl) (fun d _ _ _ _ h => by cases d <;> exact h) ((Kp.refl _ w4).drew) ?_
    refine ordn_q (d := some 48) (v := ?_) rfl rfl (Or.inl ⟨by rfl, ?_⟩) ?_
    rotate_left
    · intro wz hSw
      obtain ⟨c0, n6, g6⟩ := SH.out wz hSw
      go_simp
      (try with_reducible rfl)
    try simp only [Act.put, List.setIfInBounds_toArray, List.set_cons_zero, List.set_cons_succ]
    refine ordn_q (d := some 49) (v := ?_) rfl rfl (Or.inl ⟨by rfl, ?_⟩) ?_
    rotate_left
    · intro wz hSw
      obtain ⟨c0, n6, g6⟩ := SH.out wz hSw
      go_simp
      (try with_reducible rfl)
    try simp only [Act.put, List.setIfInBounds_toArray, List.set_cons_zero, List.set_cons_succ]
    refine ordn_q (d := some 50) (v := ?_) rfl rfl (Or.inl ⟨by rfl, ?_⟩) ?_
    rotate_left
    · intro wz hSw
      obtain ⟨c0, n6, g6⟩ := SH.out wz hSw
      go_simp
      (try with_reducible rfl)
    try simp only [Act.put, List.setIfInBounds_toArray, List.set_cons_zero, List.set_cons_succ]
    refine ordn_q (d := some 51) (v := ?_) rfl rfl (Or.inl ⟨by rfl, ?_⟩) ?_
    rotate_left
    · intro wz hSw
      obtain ⟨c0, n6, g6⟩ := SH.out wz hSw
      go_simp
      (try with_reducible rfl)
    try simp only [Act.put, List.setIfInBounds_toArray, List.set_cons_zero, List.set_cons_succ]
    refine ordn_q (d := some 52) (v := ?_) rfl rfl (Or.inl ⟨by rfl, ?_⟩) ?_
    rotate_left
    · intro wz hSw
      obtain ⟨c0, n6, g6⟩ := SH.out wz hSw
      go_simp
      (try with_reducible rfl)
    try simp only [Act.put, List.setIfInBounds_toArray, List.set_cons_zero, List.set_cons_succ]
    refine ordn_q (d := some 53) (v := ?_) rfl rfl (Or.inl ⟨by rfl, ?_⟩) ?_
    rotate_left
    · intro wz hSw
      obtain ⟨c0, n6, g6⟩ := SH.out wz hSw
      go_simp
      (try with_reducible rfl)
    try simp only [Act.put, List.setIfInBounds_toArray, List.set_cons_zero, List.set_cons_succ]
    refine ordn_q (d := some 54) (v := ?_) rfl rfl (Or.inl ⟨by rfl, ?_⟩) ?_
    rotate_left
    · intro wz hSw
      obtain ⟨c0, n6, g6⟩ := SH.out wz hSw
      go_simp
      (try with_reducible rfl)
    try simp only [Act.put, List.setIfInBounds_toArray, List.set_cons_zero, List.set_cons_succ]
    refine ordn_q (d := some 55) (v := ?_) rfl rfl (Or.inl ⟨by rfl, ?_⟩) ?_
    rotate_left
    · intro wz hSw
      obtain ⟨c0, n6, g6⟩ := SH.out wz hSw
      go_simp
      (try with_reducible rfl)
    try simp only [Act.put, List.setIfInBounds_toArray, List.set_cons_zero, List.set_cons_succ]
    refine ordn_l ?_
    refine wpOp_step rfl (fun K' hK => ?_)
    have HK := Lib.hid hK
    clear hK
    rw [if_pos (by rfl)]
    go_simp
    have KA := Lib.hid (((Kp.refl (fun k => ro1 k = 5 + p) w4).alloc (.cells #[.int .i64 (x : Int)] 3 (0, 0))).drew)
    have BA := Lib.hid (((Below.refl _ w4).alloc (Nat.le_refl _) (.cells #[.int .i64 (x : Int)] 3 (0, 0))).drew)
    have KO5 := Lib.hid (owns_same KO.out (fun g hg => BA.out.block g (KO.out.lt g hg).2))
    have NB : Hid ((w4.alloc (.cells #[.int .i64 (x : Int)] 3 (0, 0))).drew.heap[w4.heap.size]? = _) := blk_new w4 _
    generalize (w4.alloc _).drew = w5 at *
    refine HK.out _ _ ⟨KA.out, ?_⟩
    clear HK
    try change OrdN _ _ _ _ _ _ (Act.put _ (some 56) _) _
    try simp only [Act.put, List.setIfInBounds_toArray, List.set_cons_zero, List.set_cons_succ]
    refine ordn_l ?_
    refine wpOp_step rfl (fun K' hK => ?_)
    have HK := Lib.hid hK
    clear hK
    rw [if_pos (by rfl)]
    go_simp
    refine (insert36 (s1.nd p).kids kk x w4.heap.size (.slice K2 (s1.nd p).kids.length k2) w5 KO5.out hkk (by omega) NB.out (fun e => by have := (KO.out.lt _ e).2; omega)).mono ?_
    rintro e w6 ⟨v2, rfl, h2, hv2, hk2⟩
    have KP2 := Lib.hid (KA.out.trans hk2 (fun k _ e => KR.out k e))
    have TU := Lib.hid (R1.out.setK hp _ KP2.out h2 (fun g hg => (hv2 g hg).imp (fun e => KR.out g e) (fun e => Nat.le_trans BA.out.size e)) (fun _ => rfl))
    have hL := insL_len (s1.nd p).kids kk x hkk
    rw [hL] at h2
    obtain ⟨A2, c2, rfl⟩ := owns_shape h2
    rw [LE.out] at TU
    replace TU := Lib.hid TU
    clear h2 hv2 hk2 hL
    refine HK.out _ _ ⟨KP2.out, ?_⟩
    clear HK
    try change OrdN _ _ _ _ _ _ (Act.put _ (some 57) _) _
    try simp only [Act.put, List.setIfInBounds_toArray, List.set_cons_zero, List.set_cons_succ]
    refine ordn_q (d := some 58) (v := ?_) rfl rfl (Or.inl ⟨by rfl, ?_⟩) ?_
    rotate_left
    · intro wz hSw
      obtain ⟨c0, n6, g6⟩ := SH.out wz hSw
      go_simp
      (try with_reducible rfl)
    try simp only [Act.put, List.setIfInBounds_toArray, List.set_cons_zero, List.set_cons_succ]
    refine ordn_q (d := some 59) (v := ?_) rfl rfl (Or.inl ⟨by rfl, ?_⟩) ?_
    rotate_left
    · intro wz hSw
      obtain ⟨c0, n6, g6⟩ := SH.out wz hSw
      go_simp
      (try with_reducible rfl)
    try simp only [Act.put, List.setIfInBounds_toArray, List.set_cons_zero, List.set_cons_succ]
    refine ordn_last ?_
    refine wpOp_step rfl (fun K' hK => ?_)
    have HK := Lib.hid hK
    clear hK
    rw [if_pos (by rfl)]
    obtain ⟨c0, n6, g6⟩ := SH.out _ KP2.out
    go_simp
    refine HK.out _ _ ?_
    clear HK
    try simp only [Act.put, List.setIfInBounds_toArray, List.set_cons_zero, List.set_cons_succ]

    clear SH c0 n6 g6
    obtain ⟨ro3, R3, o3, m3, k3⟩ := TU.out
    generalize w6.setCell _ _ = w7 at *
    replace R3 := Lib.hid R3
    replace o3 := Lib.hid o3
    replace m3 := Lib.hid m3
    replace k3 := Lib.hid k3
    have hi2 : (x : Int) < (s1.top : Int) + 1 := by omega
    have c0 := R3.out.c0
    rw [show (s1.put p { s1.nd p with kids := L }).top = s1.top from rfl] at c0
    obtain ⟨x5, n5⟩ : ∃ x5 : Value, w7.cell? ⟨N, x * 7 + 5, none⟩ = some x5 := ⟨_, (R3.out.nc (i := x) hx1).2.2.2.2.2.1⟩
    have g5 := R3.out.nf (x * 7 + 5)
    have R4a := R3.out.setP (i := x) hx1 p (fun _ => rfl)
    rw [AE.out] at R4a
    have R4 := Lib.hid R4a
    clear R4a AE
    go_wp2
    go_ret
    have hrN : ro1 N ≠ 0 := by rw [R1.out.rN]; decide
    have K7 : Kp (fun k => ro1 k ≠ 0 ∧ True) w4 (w7.setCell ⟨N, x * 7 + 5, none⟩ (.int .i64 p)) := k3.out.setCell (p := ⟨N, x * 7 + 5, none⟩) (fun _ => ⟨hrN, trivial⟩) _
    have T7 : Turn mP ro1 D (s1.attach p x kk) (fun _ => True) w4 (w7.setCell ⟨N, x * 7 + 5, none⟩ (.int .i64 p)) := ⟨ro3, ⟨N, c, fv, _, _, R4.out⟩, o3.out, m3.out, K7⟩
    have T8 := Turn.trans O4.out M4.out K4.out T7
    rw [← IN.out] at T8
    exact ⟨rfl, Turn.pre HB2.out T8⟩
end
end Go.Proofs.Ytdbnhpghemlkbaa
