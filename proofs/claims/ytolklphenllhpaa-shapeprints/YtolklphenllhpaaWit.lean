/-
  Which trees are right: rightWithin, Right.
-/
import Derived.Test.YtolklphenllhpaaNod
namespace Go.Proofs.Ytolklphenllhpaa
open Go.RowKit Go.PlainAid
set_option maxRecDepth 100000

/-- what these walks ask of each node -/
def NdS (t : Tr) : Prop := AtS t.attrs ∧ t.tag.size ≤ 1000000 ∧ t.key.size ≤ 1000000 ∧ t.text.size ≤ 1000000
theorem TrW.kp {p : Nat → Prop} {w w' : World} {v : Value} {t : Tr} {L : Nat} (h : TrW p w v t) (hk : Kp (fun k => k = L) w w') (hL : ¬ p L) : TrW p w' v t :=
  h.frame (fun k hp hl => hk.block k hl (fun e => hL (e ▸ hp)))
/-- what rightWithin leaves -/
def WitP (L : Nat) (w : World) (r : Bool × Nat) (e : Ending) (w' : World) : Prop := e = .returned (.bool r.1) ∧ w'.heap[L]? = some (.cells #[.int .i64 r.2] 3 (0, 0)) ∧ Kp (fun k => k = L) w w'

set_option maxHeartbeats 12800000 in
theorem within18 {p : Nat → Prop} {L : Nat} (hpL : ¬ p L) (d : Nat) : ∀ (v : Value) (t : Tr) (l : Nat) (w : World), TrW p w v t → t.all NdS → d ≤ 1000 → l ≤ 1000000 → w.heap[L]? = some (.cells #[.int .i64 l] 3 (0, 0)) →
    Calls Try.prog 18 #[v, .int .i64 d, .pointer (some ⟨L, 0, none⟩)] w (WitP L w (rg d t l)) := by
  induction d with
  | zero =>
    intro v t l w h hs hd hl hL
    obtain ⟨g, k, x, a, ks, A1, l1, a1, K1, c1, rfl, rfl⟩ := h.parts
    have L0 := Lib.hid (blk_alloc hL (.cells #[.string g, .string k, .string x, .slice A1 l1 a1, .slice K1 ks.length c1] 27 (0, 0)))
    have K0 := Lib.hid ((Kp.refl (fun k => k = L) w).alloc (.cells #[.string g, .string k, .string x, .slice A1 l1 a1, .slice K1 ks.length c1] 27 (0, 0)))
    clear h hs hL
    go_enter Try.func18, Try.ntmps18
    go_wp2
    go_ret
    exact ⟨rfl, L0.out, K0.out⟩
  | succ d ih =>
    intro v t l w h hs hd hl hL
    have IH := Lib.hid ih
    obtain ⟨g, k, x, a, ks, A1, l1, a1, K1, c1, rfl, rfl⟩ := h.parts
    obtain ⟨_, _, _, PA, hla, KA⟩ := h.ks
    obtain ⟨A', c', e1, _⟩ := PA
    cases e1
    obtain ⟨A'', c'', cv, e2, hlk, _⟩ := KA
    cases e2
    have hs' := all_mk hs
    have hb0 := (Below.refl _ w).alloc (Nat.le_refl _) (.cells #[.string g, .string k, .string x, .slice A1 a.length a1, .slice K1 ks.length c1] 27 (0, 0))
    have X0 := Lib.hid (blk_new w (.cells #[.string g, .string k, .string x, .slice A1 a.length a1, .slice K1 ks.length c1] 27 (0, 0)))
    have L0 := Lib.hid (blk_alloc hL (.cells #[.string g, .string k, .string x, .slice A1 a.length a1, .slice K1 ks.length c1] 27 (0, 0)))
    have K0 := Lib.hid ((Kp.refl (fun k => k = L) w).alloc (.cells #[.string g, .string k, .string x, .slice A1 a.length a1, .slice K1 ks.length c1] 27 (0, 0)))
    have T0 := Lib.hid (h.call hb0)
    have NS := Lib.hid hs'.1
    have KS := Lib.hid hs'.2
    have LT := Lib.hid (blk_lt hL)
    clear hs hs' ih hb0 hL h
    have n0 : ((d : Int) + 1 == 0) = false := beqF (by omega)
    by_cases el : l = 0
    · subst el
      go_enter Try.func18, Try.ntmps18
      go_upto_region 1 with fail
      generalize w.alloc _ = w1 at *
      have l0 := blk_cell L0.out 0
      simp at l0
      go_wp2
      go_ret
      exact ⟨by rw [rg, if_pos (Or.inl rfl)]; rfl, by rw [rg, if_pos (Or.inl rfl)]; exact L0.out, K0.out⟩
    have q1 : ((l : Int) == 0) = false := beqF (by omega)
    go_enter Try.func18, Try.ntmps18
    go_upto_region 1 with fail
    generalize w.alloc _ = w1 at *
    have l0 := blk_cell L0.out 0
    have x0 := blk_cell X0.out 0
    have x1 := blk_cell X0.out 1
    have x2 := blk_cell X0.out 2
    have x3 := blk_cell X0.out 3
    have x4 := blk_cell X0.out 4
    simp at l0 x0 x1 x2 x3 x4
    go_wp2_with fail
    refine (rightNode27 _ _ w1 T0.out NS.out.1 NS.out.2).mono ?_
    rintro e w2 ⟨rfl, hb2⟩
    have X2 := Lib.hid (blk_call X0.out hb2)
    have L2 := Lib.hid (blk_call L0.out hb2)
    have T2 := Lib.hid (T0.out.call hb2)
    have K2 := Lib.hid (K0.out.trans (Kp.of_below hb2 (fun k => k = L)) (fun i _ t => t))
    clear hb2 X0 L0 T0 K0 l0 x0 x1 x2 x3 x4
    have l0 := blk_cell L2.out 0
    have f0 := blk_frozen L2.out 0
    have x4 := blk_cell X2.out 4
    simp at l0 x4
    cases hq : rn (.mk g k x a ks) with
    | false =>
      go_wp2
      go_ret
      exact ⟨by rw [rg, if_pos (Or.inr hq)]; rfl, by rw [rg, if_pos (Or.inr hq)]; exact L2.out, K2.out⟩
    | true =>
      have R : Hid (rg (d + 1) (.mk g k x a ks) l = rgL (rg d) ks (l - 1)) := by
        show rg (d + 1) _ l = _
        rw [rg, if_neg (by rw [hq]; simp; omega)]; rfl
      clear hq
      obtain ⟨l, rfl⟩ : ∃ m, l = m + 1 := ⟨l - 1, by omega⟩
      rw [Nat.add_sub_cancel] at R
      have L3 := Lib.hid (blk_setCell L2.out 0 (.int .i64 (l : Int)))
      have hk3 : Kp (fun k => k = L) w2 (w2.setCell ⟨L, 0, none⟩ (.int .i64 (l : Int))) := (Kp.refl (fun k => k = L) w2).setCell (p := ⟨L, 0, none⟩) (fun _ => rfl) _
      have K3 := Lib.hid (K2.out.trans hk3 (fun i _ t => t))
      have T3 := Lib.hid (T2.out.kp hk3 hpL)
      have hne : w.heap.size ≠ L := by have := LT.out; omega
      have X3 := Lib.hid (blk_setCell_other X2.out (p := ⟨L, 0, none⟩) hne (.int .i64 (l : Int)))
      clear hk3 hne K2 T2
      go_upto_region 4 with fail
      generalize w2.setCell _ _ = w3 at *
      clear l0 f0 x4 X2 L2
      have x4 := blk_cell X3.out 4
      simp at x4
      simp at L3
      have KS3 := T3.out.ks.2.2.2.2.2
      obtain ⟨A4, c4, cv4, e4, _, hk4, ht4⟩ := KS3
      cases e4
      have HK := Lib.hid hk4
      have HT := Lib.hid ht4
      clear hk4 ht4
      go_wp2_with fail
      go_loopw [30] (fun p wr => ∃ (j m : Nat), j ≤ ks.length ∧ p = .int .i64 j ∧ m ≤ 1000000 ∧ Hid (rgL (rg d) (ks.take j) l = (true, m)) ∧ Hid (wr.heap[L]? = some (.cells #[.int .i64 m] 3 (0, 0))) ∧ Hid (Kp (fun k => k = L) w3 wr)) (fun p _ => ks.length - (intOf p).toNat)
      case atStart => exact ⟨0, l, Nat.zero_le _, rfl, by omega, by rw [List.take_zero]; rfl, L3.out, Kp.refl _ _⟩
      case round =>
        obtain ⟨j, m, hj, rfl, hm, HR, HL, KW⟩ := hrel
        have KZ := Lib.hid (K3.out.trans KW.out (fun i _ t => t))
        by_cases hlt : j < ks.length
        · have d0 : (j : Int) < (ks.length : Int) := by omega
          obtain ⟨b1, o1, x0, x1, x2, x3, x4', rfl, hp1, ec, k0, k1, k2, k3, k4⟩ := HK.out j hlt
          have TA := (HT.out j hlt).kp KW.out hpL
          rw [ec] at TA
          obtain ⟨g5, y5, t5, at5, kd5, A5, n5, a5, K5, c5, et, ev⟩ := TA.parts
          cases ev
          clear et
          have gc : ∀ (o : Nat) (v : Value), w3.cell? ⟨b1, o, none⟩ = some v → wr.cell? ⟨b1, o, none⟩ = some v := fun o v hc => by
            rw [KW.out.cell (World.block_lt_of_cell? w3 _ hc) (fun e => hpL (e ▸ hp1))]
            exact hc
          replace k0 := gc _ _ k0
          replace k1 := gc _ _ k1
          replace k2 := gc _ _ k2
          replace k3 := gc _ _ k3
          replace k4 := gc _ _ k4
          have RN := Lib.hid (rg_next (rg d) ks j l m hlt HR.out)
          have RS := Lib.hid (rg_stop (rg d) ks (j + 1) l)
          have RL := rg_le d (ks.getD j tr0) m
          have KJ := Lib.hid (KS.out j hlt)
          have hbx := (Below.refl _ wr).alloc (Nat.le_refl _) (.cells #[.string g5, .string y5, .string t5, .slice A5 n5 a5, .slice K5 kd5.length c5] 27 (0, 0))
          have TB := Lib.hid (TA.call hbx)
          have LB := Lib.hid (blk_call HL.out hbx)
          have KB := Lib.hid (KW.out.alloc (.cells #[.string g5, .string y5, .string t5, .slice A5 n5 a5, .slice K5 kd5.length c5] 27 (0, 0)))
          clear gc ec TA hbx HL KW KZ
          go_wp2_with fail
          clear k0 k1 k2 k3 k4
          generalize wr.alloc _ = w5 at *
          refine (IH.out _ _ m w5 TB.out KJ.out (by omega) hm LB.out).mono ?_
          rintro e w6 ⟨rfl, hL6, hk6⟩
          have L6 := Lib.hid hL6
          have K6 := Lib.hid (KB.out.trans hk6 (fun i _ t => t))
          clear hL6 hk6 TB LB KB
          cases hb : (rg d (ks.getD j tr0) m).1 with
          | true =>
            have RX : Hid (rgL (rg d) (ks.take (j + 1)) l = (true, (rg d (ks.getD j tr0) m).2)) := by
              rw [Hid, RN.out]
              exact Prod.ext hb rfl
            clear hb RN RS
            generalize (rg d (ks.getD j tr0) m).2 = m2 at *
            go_wp2_with fail
            go_roundw
            case rel => exact ⟨j + 1, m2, by omega, by go_num, by omega, RX, L6, K6⟩
            case measure => simp [intOf]; omega
          | false =>
            have E : Hid (rg (d + 1) (.mk g k x a ks) (l + 1) = rg d (ks.getD j tr0) m) := by
              rw [Hid, R.out, RS.out (by rw [RN.out]; exact hb), RN.out]
            have KY := Lib.hid (K3.out.trans K6.out (fun i _ t => t))
            go_wp2
            go_ret
            exact ⟨by rw [E.out, hb]; rfl, by rw [E.out]; exact L6.out, KY.out⟩
        · obtain rfl : j = ks.length := by omega
          have E : Hid (rg (d + 1) (.mk g k x a ks) (l + 1) = (true, m)) := by
            have := HR.out
            rw [List.take_length] at this
            rw [Hid, R.out, this]
          go_wp2
          go_ret
          exact ⟨by rw [E.out]; rfl, by rw [E.out]; exact HL.out, KZ.out⟩

/-- is it right? -/
def rtB (t : Tr) : Bool := (rg 12 t 60).1
set_option maxHeartbeats 12800000 in
theorem right7 {p : Nat → Prop} (v : Value) (t : Tr) (w : World) (h : TrW p w v t) (hs : t.all NdS) :
    Calls Try.prog 7 #[v] w fun e w' => e = .returned (.bool (rtB t)) ∧ Below w.heap.size w w' := by
  obtain ⟨g, k, x, a, ks, A1, l1, a1, K1, c1, rfl, rfl⟩ := h.parts
  have h' : TrW (fun i => p i ∧ i < w.heap.size) w _ _ := h.mono (fun i hp hl => ⟨hp, hl⟩)
  have hb0 := ((Below.refl _ w).alloc (Nat.le_refl _) (.cells #[.string g, .string k, .string x, .slice A1 l1 a1, .slice K1 ks.length c1] 27 (0, 0))).alloc (by simp) (.cells #[.int .i64 60] 3 (0, 0))
  have X0 := Lib.hid (blk_alloc (blk_new w (.cells #[.string g, .string k, .string x, .slice A1 l1 a1, .slice K1 ks.length c1] 27 (0, 0))) (.cells #[.int .i64 60] 3 (0, 0)))
  have L0 := Lib.hid (blk_new1 w (.cells #[.string g, .string k, .string x, .slice A1 l1 a1, .slice K1 ks.length c1] 27 (0, 0)) (.cells #[.int .i64 60] 3 (0, 0)))
  have T0 := Lib.hid (h'.call hb0)
  have B0 := Lib.hid hb0
  have HS := Lib.hid hs
  clear h h' hs hb0
  go_enter Try.func7, Try.ntmps7
  go_upto_region 2 with fail
  generalize (w.alloc _).alloc _ = w2 at *
  have x0 := blk_cell X0.out 0
  have x1 := blk_cell X0.out 1
  have x2 := blk_cell X0.out 2
  have x3 := blk_cell X0.out 3
  have x4 := blk_cell X0.out 4
  simp at x0 x1 x2 x3 x4
  go_wp2_with fail
  refine (within18 (p := fun i => p i ∧ i < w.heap.size) (L := w.heap.size + 1) (fun h => by have := h.2; omega) 12 _ _ 60 w2 T0.out HS.out (by omega) (by omega) L0.out).mono ?_
  rintro e w3 ⟨rfl, _, hk3⟩
  have B3 := Lib.hid (B0.out.trans (hk3.below B0.out.size (fun k hk e => by omega)))
  clear hk3
  go_wp2
  go_ret
  exact ⟨rfl, B3.out⟩
end Go.Proofs.Ytolklphenllhpaa
