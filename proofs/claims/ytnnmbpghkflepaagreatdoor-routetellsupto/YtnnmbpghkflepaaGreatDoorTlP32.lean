/-
  Put together: TlWalk, ArgsK.
-/
import Derived.Test.YtnnmbpghkflepaaGreatDoorTlP29
import Derived.Test.YtnnmbpghkflepaaGreatDoorTlP30
import Derived.Test.YtnnmbpghkflepaaGreatDoorTlP31
import Derived.Test.YtnnmbpghkflepaaGreatDoorTlP23
import Derived.Test.YtnnmbpghkflepaaGreatDoorTlP04
import Derived.Test.YtnnmbpghkflepaaGreatDoorTlP03
import Derived.Test.YtnnmbpghkflepaaGreatDoorChecked
import Derived.Lib.SmallJoins
import Derived.Deep.Strs
import Derived.Deep.SlicePairs
import Derived.ChangeSlices
import Derived.OpenShut
namespace Go.Proofs.YtnnmbpghkflepaaGreatDoor
open Go.RowKit Go.PlainAid
set_option maxRecDepth 100000

theorem field33 (A1 : Option Addr) (n1 c1 : Nat) (A2 : Option Addr) (n2 c2 : Nat) (w : World) : (Instr.field 33 (.agg #[.slice A1 n1 c1, .slice A2 n2 c2]) 0).run Tryz.prog w = .ok (.slice A1 n1 c1) w := by
  kernel_rfl
theorem words_size : ∀ s ∈ wordsL, s.size ≤ 100000000 := by decide +kernel
theorem rt_sz {l : List Rc} (h : rtB l = true) : SzR l := by
  intro r hr
  obtain ⟨i, hi, rfl⟩ := List.getElem_of_mem hr
  have e : l.getD i default = l[i] := by simp [List.getD, hi]
  have hp := rt_par h
  rw [rtB, Bool.and_eq_true, List.all_eq_true] at h
  have := h.2 i (by simpa using hi)
  rw [okR, Bool.and_eq_true, Bool.and_eq_true, Bool.and_eq_true] at this
  rw [e] at this
  refine ⟨by have := tx_le this.1; omega, fun g hg => ?_⟩
  have hm : g ∈ fuL l (i : Nat) := by rw [fu_step hp i hi, e, List.mem_append]; exact Or.inr hg
  have := tx_le (ok_parts this.2.2.2 hm).1
  omega
theorem Ps.first5 {w : World} {A : Option Addr} {n c : Nat} {l : List Pr} (h : Ps w (.slice A n c) l) (k : Nat) (hk : k ≤ l.length) : Ps w (.slice A k c) (l.take k) := by
  obtain ⟨A', cap, h1, h2, h3, h4⟩ := h
  cases h1
  have hl : (l.take k).length = k := by rw [List.length_take]; omega
  refine ⟨A, c, by rw [hl], by rw [hl]; omega, h3, fun i hi => ?_⟩
  rw [hl] at hi
  obtain ⟨b, o, ha, hc⟩ := h4 i (by omega)
  refine ⟨b, o, ha, ?_⟩
  have e : (l.take k).getD i default = l.getD i default := by simp only [List.getD]; rw [List.getElem?_take_of_lt hi]
  rw [e]
  exact hc
theorem mt_len (l : List Sg) (path : List ByteArray) : (mtL l path).length ≤ 1000000000 := by
  by_cases hr : rgB l = true
  · have h8 := rg_len hr
    rw [(mt_some hr).2]
    have : ∀ (l : List Sg) (p : List ByteArray), ((mtR l p).getD []).length ≤ l.length := by
      intro l
      induction l with
      | nil => intro p; rw [mtR]; split <;> simp
      | cons g r ih =>
        intro p
        rw [mtR]
        rcases tkN g p with _ | m
        · simp
        · have h1 := ih (p.drop m)
          rcases hq : mtR r (p.drop m) with _ | q
          · simp [hq]
          · have h2 : (tlP g (p.take m)).length ≤ 1 := by unfold tlP; split <;> simp
            rw [hq] at h1
            simp [hq] at h1 ⊢
            omega
    have := this l path
    omega
  · have hr : rgB l = false := by simpa using hr
    rw [(mt_wrong hr).2]
    simp
theorem bd_len {l : List Sg} {ps : List Pr} {x : List ByteArray} (h : bdO l ps = some x) : x.length ≤ 8 := by
  unfold bdO at h
  split at h
  · split at h
    · cases h
    · split at h
      · rename_i hc
        cases h
        rw [Bool.and_eq_true] at hc
        exact (right_parts hc.1).1
      · cases h
  · cases h
theorem aL_len (ls : List (List Sg)) (path : List ByteArray) (al : List Nat) : (aL ls path al).length ≤ 1000000000 := by
  cases al with
  | nil => simp [aL]
  | cons i0 al => exact mt_len _ _
theorem rvL_len (l : List Rc) (s : ByteArray) (q : List Pr) : (rvL l s q).length ≤ 1000000000 := by
  rw [rvL]
  split
  · simp
  · rw [bdL]
    cases hb : bdO (fuL l (nmI l s)) q with
    | none => simp
    | some x =>
      simp only [Option.getD_some]
      have := (bd_len hb)
      omega
/-- the records that are asked -/
def TlMid (wb : World) (v : Value) (wz : World) : Prop := ∃ L : List Rc, Rs wz v L ∧ Fit L ∧ SzR L ∧ Below wb.heap.size wb wz

set_option maxHeartbeats 25600000 in
theorem routeTells3 (w : World) (v0 : Value) (l0 : List Rc) (s : ByteArray) (pv : Value) (q : List Pr) (own : Bool) {A0 A1 A2 A3 A4 A5 A6 D1 D2 D3 : Option Addr} {n0 n1 n2 n3 n4 n5 n6 c0 c1 c2 c3 c4 c5 c6 m1 m2 m3 e1 e2 e3 : Nat} {f0 f1 f2 f3 f4 f5 f6 g1 g2 g3 : Nat → Int} (h0 : Ia w A0 n0 f0) (h1 : Ia w A1 n1 f1) (h2 : Ia w A2 n2 f2) (h3 : Ia w A3 n3 f3) (h4 : Ia w A4 n4 f4) (h5 : Ia w A5 n5 f5) (h6 : Ia w A6 n6 f6) (u1 : Ia w D1 m1 g1) (u2 : Ia w D2 m2 g2) (u3 : Ia w D3 m3 g3) (k0 : Rs w v0 l0) (z0 : SzR l0) (hq : Ps w pv q) (hqz : ∀ p ∈ q, p.2.size ≤ 100000000) :
    Calls Tryz.prog 3 #[v0, .agg #[.slice A0 n0 c0, .slice A1 n1 c1, .slice A2 n2 c2, .slice A3 n3 c3, .slice A4 n4 c4, .slice A5 n5 c5, .slice A6 n6 c6], .agg #[.slice D1 m1 e1, .slice D2 m2 e2, .slice D3 m3 e3], .string s, pv, .bool own] w fun e w' => e = .returned (.bool true) ∧ Below w.heap.size w w' := by
  obtain ⟨A8, c8, rfl⟩ := k0.len
  obtain ⟨A9, c9, rfl, hcq, -⟩ := id hq
  have F33 := field33
  have HB := Lib.hid (((Below.refl w.heap.size w).alloc (Nat.le_refl _) (.cells #[.slice A0 n0 c0, .slice A1 n1 c1, .slice A2 n2 c2, .slice A3 n3 c3, .slice A4 n4 c4, .slice A5 n5 c5, .slice A6 n6 c6] 25 (0, 0))).alloc (by simp) (.cells #[.slice D1 m1 e1, .slice D2 m2 e2, .slice D3 m3 e3] 27 (0, 0)))
  have XK := Lib.hid (blk_alloc (blk_new w (.cells #[.slice A0 n0 c0, .slice A1 n1 c1, .slice A2 n2 c2, .slice A3 n3 c3, .slice A4 n4 c4, .slice A5 n5 c5, .slice A6 n6 c6] 25 (0, 0))) (.cells #[.slice D1 m1 e1, .slice D2 m2 e2, .slice D3 m3 e3] 27 (0, 0)))
  have XU := Lib.hid (blk_new1 w (.cells #[.slice A0 n0 c0, .slice A1 n1 c1, .slice A2 n2 c2, .slice A3 n3 c3, .slice A4 n4 c4, .slice A5 n5 c5, .slice A6 n6 c6] 25 (0, 0)) (.cells #[.slice D1 m1 e1, .slice D2 m2 e2, .slice D3 m3 e3] 27 (0, 0)))
  have HS0 := Lib.hid (k0.call HB.out)
  have HQ0 := Lib.hid (hq.call HB.out)
  have J0 := Lib.hid (h0.call HB.out)
  have J1 := Lib.hid (h1.call HB.out)
  have J2 := Lib.hid (h2.call HB.out)
  have J3 := Lib.hid (h3.call HB.out)
  have J4 := Lib.hid (h4.call HB.out)
  have J5 := Lib.hid (h5.call HB.out)
  have J6 := Lib.hid (h6.call HB.out)
  have V1 := Lib.hid (u1.call HB.out)
  have V2 := Lib.hid (u2.call HB.out)
  have V3 := Lib.hid (u3.call HB.out)
  clear h0 h1 h2 h3 h4 h5 h6 u1 u2 u3 k0 hq
  go_enter Tryz.func3, Tryz.ntmps3
  go_upto_region 1 with fail
  generalize (w.alloc (.cells #[.slice A0 n0 c0, .slice A1 n1 c1, .slice A2 n2 c2, .slice A3 n3 c3, .slice A4 n4 c4, .slice A5 n5 c5, .slice A6 n6 c6] 25 (0, 0))).alloc (.cells #[.slice D1 m1 e1, .slice D2 m2 e2, .slice D3 m3 e3] 27 (0, 0)) = wb at *
  have hq1 : (min (q.length : Int) 5).toNat ≤ q.length := by omega
  have hq5 : (min (q.length : Int) 5).toNat ≤ 5 := by omega
  have hcA : (0 : Int) ≤ min (q.length : Int) 5 := by omega
  have hcB : min (q.length : Int) 5 ≤ (c9 : Int) := by omega
  go_cut [0, 4] (fun s0 s4 wz => s4 = .slice A9 (min (q.length : Int) 5).toNat c9 ∧ Hid (TlMid wb s0 wz))
  case first =>
    go_region_held3 (fun w' => Below wb.heap.size wb w')
      (first | exact (Below.refl _ _).drew | exact HBX.out)
      (first | (go_at_call 6; refine (small6 _ l0 _ (HS0.out.call (Below.refl _ _).drew) z0).mono ?_; rintro e w1 ⟨u, L, rfl, h1, h2, h3⟩; have HL1 := Lib.hid h1; have HL2 := Lib.hid h2; have HL3 := Lib.hid h3; have HBX := Lib.hid (((Below.refl wb.heap.size wb).drew).trans h1.below); obtain ⟨AL, nL, cL, eL⟩ := h1.shape; subst eL; clear h1 h2 h3))
    all_goals
      go_wp2_with fail
      go_meet
      exact ⟨rfl, L, HL1.out.rs, ⟨by have := HL2.out; omega, fun r hr => by have := (HL3.out r hr).1; omega⟩, fun r hr => (HL3.out r hr).2, HBX.out⟩
  case rest =>
    obtain ⟨rfl, HM⟩ := hcut
    have HQ1 := Lib.hid (HQ0.out.first5 _ hq1)
    generalize (min (q.length : Int) 5).toNat = nq at *
    have hql : Hid ((q.take nq).length ≤ 1000000000) := (show _ ≤ _ by rw [List.length_take]; omega)
    have hqs : Hid (∀ p ∈ q.take nq, p.2.size ≤ 100000000) := fun p hp => hqz p (List.mem_of_mem_take hp)
    clear hq1 hq5 hcA hcB HQ0
    generalize q.take nq = qs at *
    generalize wc = w1 at *
    have HB1 : Hid (Below wb.heap.size wb w1) := by obtain ⟨L, _, _, _, h⟩ := HM.out; exact h
    go_upto_if 32 with fail
    go_cut [0] (fun s0 wz => Hid (TlMid wb s0 wz))
    case first =>
      cases own
      · go_wp2_with fail
        go_meet
        exact HM.out
      · have XK1 := Lib.hid ((HB1.out.block _ (blk_lt XK.out)).trans XK.out)
        have x0 : w1.cell? ⟨w.heap.size, 0, none⟩ = some (.slice A0 n0 c0) := by rw [blk_cell XK1.out]; rfl
        have x1 : w1.cell? ⟨w.heap.size, 1, none⟩ = some (.slice A1 n1 c1) := by rw [blk_cell XK1.out]; rfl
        have x2 : w1.cell? ⟨w.heap.size, 2, none⟩ = some (.slice A2 n2 c2) := by rw [blk_cell XK1.out]; rfl
        have x3 : w1.cell? ⟨w.heap.size, 3, none⟩ = some (.slice A3 n3 c3) := by rw [blk_cell XK1.out]; rfl
        have x4 : w1.cell? ⟨w.heap.size, 4, none⟩ = some (.slice A4 n4 c4) := by rw [blk_cell XK1.out]; rfl
        have x5 : w1.cell? ⟨w.heap.size, 5, none⟩ = some (.slice A5 n5 c5) := by rw [blk_cell XK1.out]; rfl
        have x6 : w1.cell? ⟨w.heap.size, 6, none⟩ = some (.slice A6 n6 c6) := by rw [blk_cell XK1.out]; rfl
        have HRC := Lib.hid (records7 w1 (c0 := c0) (c1 := c1) (c2 := c2) (c3 := c3) (c4 := c4) (c5 := c5) (c6 := c6) (J0.out.call HB1.out) (J1.out.call HB1.out) (J2.out.call HB1.out) (J3.out.call HB1.out) (J4.out.call HB1.out) (J5.out.call HB1.out) (J6.out.call HB1.out))
        go_wp2_with (first | (go_at_call 7; refine HRC.out.mono ?_; rintro e w2 ⟨v1, L, ds, rfl, ho, hok⟩; have HO := Lib.hid ho; have HK := Lib.hid hok; obtain ⟨P4, p4, q4, e4⟩ := ho.shape; subst e4; clear ho hok))
        go_meet
        exact ⟨L, HO.out.rs, HK.out.fit, rt_sz HK.out.right, HB1.out.trans (HO.out.below.mono HB1.out.size)⟩
    case rest =>
      obtain ⟨L, hL, hfit, hsz, hbel⟩ := hcut.out
      clear hcut HM HB1
      generalize wc = w2 at *
      have HB2 := Lib.hid hbel
      have HL := Lib.hid hL
      have HF := Lib.hid hfit
      have HZ := Lib.hid hsz
      have hl20 := hfit.1
      obtain ⟨AL, cL, eL⟩ := hL.len
      subst eL
      clear hL hfit hsz hbel
      have XU2 := Lib.hid ((HB2.out.block _ (blk_lt XU.out)).trans XU.out)
      have y0 : w2.cell? ⟨w.heap.size + 1, 0, none⟩ = some (.slice D1 m1 e1) := by rw [blk_cell XU2.out]; rfl
      have y1 : w2.cell? ⟨w.heap.size + 1, 1, none⟩ = some (.slice D2 m2 e2) := by rw [blk_cell XU2.out]; rfl
      have y2 : w2.cell? ⟨w.heap.size + 1, 2, none⟩ = some (.slice D3 m3 e3) := by rw [blk_cell XU2.out]; rfl
      have HUC := Lib.hid (url13 D1 D2 D3 m1 e1 m2 e2 m3 e3 g1 g2 g3 w2 (V1.out.call HB2.out) (V2.out.call HB2.out) (V3.out.call HB2.out))
      go_upto_region 5 with (first | (go_at_call 8; refine HUC.out.mono ?_; rintro e w3 ⟨v1, v2, p, q9, rfl, h3, h4, h5, hb3⟩; have HP := Lib.hid h3; have HOK := Lib.hid h5; have HB3 := Lib.hid hb3; obtain ⟨A3', n3', c3', e3'⟩ := h3.shape; obtain ⟨A4', n4', c4', e4'⟩ := h4.shape; subst e3' e4'; clear h3 h4 h5 hb3))
      clear HUC y0 y1 y2
      have HL3 := Lib.hid (HL.out.call HB3.out)
      have HQ3 := Lib.hid ((HQ1.out.call HB2.out).call HB3.out)
      have HBW : Hid (Below w.heap.size w w3) := HB.out.trans ((HB2.out.trans (HB3.out.mono HB2.out.size)).mono HB.out.size)
      have HPS : Hid (∀ s ∈ p, s.size ≤ 100000000) := fun s hs => words_size s (HOK.out.2.2.1 s hs)
      have hpl : p.length ≤ 1000 := by have := HOK.out.1; omega
      clear HL HQ1 HB2 HB3 XK XU XU2 V1 V2 V3 J0 J1 J2 J3 J4 J5 J6 HS0 HB HOK
      by_cases hr : rtB L = true
      · obtain ⟨al, ha⟩ := al_ex (fusL L L.length) p L.length
        have HA : Hid (AllN (fusL L L.length) p al) := ⟨ha.1, fun i => by rw [ha.2 i, fus_len]⟩
        have HR := Lib.hid hr
        have HX9 := Lib.hid (resolve9_yes _ L _ p w3 HL3.out HF.out hr (by omega) HP.out HPS.out hpl HA.out)
        have HX10 := fun w' hb => refResolve10_yes _ L _ p w' (HL3.out.call hb) HF.out HZ.out hr (HP.out.call hb) HPS.out hpl HA.out
        have HX10 := Lib.hid HX10
        clear ha
        have eal : Hid ((aL (fusL L L.length) p al).length ≤ 1000000000) := aL_len _ _ _
        have erl : Hid ((rvL L s qs).length ≤ 1000000000) := rvL_len _ _ _
        have HX14 := Lib.hid (fun w' hb => named14 _ L s w' (HL3.out.call (w' := w') hb) (by omega))
        have HX15 := Lib.hid (fun w' hb => refNamed15 _ L s w' (HL3.out.call (w' := w') hb) (by omega))
        have HX16 := Lib.hid (fun w' hb => reverse16 _ L s _ qs w' (HL3.out.call (w' := w') hb) HF.out (HQ3.out.call hb) hql.out hqs.out)
        have HX17 := Lib.hid (fun w' hb => refReverse17 _ L s _ qs w' (HL3.out.call (w' := w') hb) HF.out HZ.out (HQ3.out.call hb) hql.out hqs.out)
        generalize rvL L s qs = rl at *
        generalize rvB L s qs = rb at *
        generalize nmI L s = nm at *
        generalize aL (fusL L L.length) p al = pl at *
        generalize aN al = N0 at *
        generalize (!al.isEmpty) = b0 at *
        have hN0 : (N0 != N0) = false := by simp
        have hb0 : (b0 != b0) = false := by simp
        have hnm : (nm != nm) = false := by simp
        have hrb : (rb != rb) = false := by simp
        clear hr
        go_upto_region 7 with (first
          | (go_at_call 9; refine HX9.out.mono ?_; rintro e w4 ⟨u4, rfl, h4, hb4⟩; have H4 := Lib.hid h4; have B4 := Lib.hid hb4; obtain ⟨a4, b4, d4, e4⟩ := h4.shape; subst e4; clear h4 hb4)
          | (go_at_call 10; refine (HX10.out _ B4.out).mono ?_; rintro e w5 ⟨u5, rfl, h5, hb5⟩; have H5 := Lib.hid h5; have B5 := Lib.hid (B4.out.trans (hb5.mono B4.out.size)); have K4 := Lib.hid (H4.out.call hb5); obtain ⟨a5, b5, d5, e5⟩ := h5.shape; subst e5; clear h5 hb5))
        clear HX9 HX10 H4
        go_upto_region 9 with (first
          | (go_at_call 11; refine (right11 _ L _ (HL3.out.call B5.out) HF.out).mono ?_; rintro e w6 ⟨rfl, hb6⟩; rw [HR.out]; have D6 := Lib.hid hb6; have B6 := Lib.hid (B5.out.trans (hb6.mono B5.out.size)); clear hb6)
          | (go_at_call 12; refine (refRight12 _ L _ (HL3.out.call B6.out) HF.out HZ.out).mono ?_; rintro e w7 ⟨rfl, hb7⟩; rw [HR.out]; have D7 := Lib.hid (D6.out.trans (hb7.mono D6.out.size)); have B7 := Lib.hid (B6.out.trans (hb7.mono B6.out.size)); clear hb7)
          | (go_at_call 13; refine (sameP _ _ pl pl _ (K4.out.call D7.out) (H5.out.call D7.out) eal.out).mono ?_; rintro e w8 ⟨rfl, hb8⟩; rw [decide_eq_true rfl]; have B8 := Lib.hid (B7.out.trans (hb8.mono B7.out.size)); clear hb8)
          | (go_at_call 14; refine (HX14.out _ B8.out).mono ?_; rintro e w9 ⟨rfl, hb9⟩; have B9 := Lib.hid (B8.out.trans (hb9.mono B8.out.size)); clear hb9)
          | (go_at_call 15; refine (HX15.out _ B9.out).mono ?_; rintro e wa ⟨rfl, hba⟩; have Ba := Lib.hid (B9.out.trans (hba.mono B9.out.size)); clear hba))
        clear K4 H5 D6 D7 HX14 HX15
        go_upto_region 11 with (first
          | (go_at_call 16; refine (HX16.out _ Ba.out).mono ?_; rintro e w16 ⟨u16, rfl, h16, hb16⟩; have H16 := Lib.hid h16; have B16 := Lib.hid (Ba.out.trans (hb16.mono Ba.out.size)); obtain ⟨aa, ab, ad, ae⟩ := h16.shape; subst ae; clear h16 hb16)
          | (go_at_call 17; refine (HX17.out _ B16.out).mono ?_; rintro e w17 ⟨u17, rfl, h17, hb17⟩; have H17 := Lib.hid h17; have B17 := Lib.hid (B16.out.trans (hb17.mono B16.out.size)); have K16 := Lib.hid (H16.out.call hb17); obtain ⟨ba, bb, bd, be⟩ := h17.shape; subst be; clear h17 hb17))
        clear HX16 HX17 H16
        go_upto_region 15 with (first
          | (go_at_call 18; refine (sameS _ _ rl rl _ K16.out H17.out erl.out).mono ?_; rintro e w18 ⟨rfl, hb18⟩; rw [decide_eq_true rfl]; have B18 := Lib.hid (B17.out.trans (hb18.mono B17.out.size)); clear hb18)
          | (go_at_call 12; refine (refRight12 _ L _ (HL3.out.call B18.out) HF.out HZ.out).mono ?_; rintro e w19 ⟨rfl, hb19⟩; rw [HR.out]; have B19 := Lib.hid (B18.out.trans (hb19.mono B18.out.size)); clear hb19))
        clear K16 H17
        have HPO := Lib.hid (rt_par HR.out)
        have hl16 := (rt_len HR.out).2
        go_wp2_with fail
        go_loopw [111] (fun i wr => ∃ (k : Nat), k ≤ L.length ∧ i = .int .i64 k ∧ Hid (Below w3.heap.size w3 wr)) (fun i _ => L.length - (intOf i).toNat)
        case atStart => exact ⟨0, Nat.zero_le _, rfl, B19.out⟩
        case round =>
          obtain ⟨k, hk, rfl, HW⟩ := hrel
          by_cases hlt : k < L.length
          · have d0 : (k : Int) < (L.length : Int) := by omega
            have hfz : Hid ((fuL L (k : Nat)).length ≤ 1000000000) := (show _ ≤ _ by have := fu_len HF.out (k : Nat); omega)
            have hcz : Hid ((chL L (k : Nat)).length ≤ 1000) := (show _ ≤ _ by have := ch_len L (k : Nat); omega)
            have HX21 := Lib.hid (fun w' hb => full21 _ L (k : Nat) w' (HL3.out.call (w' := w') hb) HF.out)
            have HX22 := Lib.hid (fun w' hb => refFull22 _ L k w' (HL3.out.call (w' := w') hb) HF.out HPO.out hlt hl16)
            have HX24 := Lib.hid (fun w' hb => chain24 _ L (k : Nat) w' (HL3.out.call (w' := w') hb) (by omega))
            have HX25 := Lib.hid (fun w' hb => refChain25 _ L k w' (HL3.out.call (w' := w') hb) HPO.out hlt hl16)
            generalize fuL L (k : Nat) = fu at *
            generalize chL L (k : Nat) = ch at *
            go_wp2_with (first
              | (go_at_call 21; refine (HX21.out _ HW.out).mono ?_; rintro e wa1 ⟨ua1, rfl, ha1⟩; have HA1 := Lib.hid ha1.gs; have BA1 := Lib.hid (HW.out.trans (ha1.2.1.mono HW.out.size)); obtain ⟨ta, tb, tc, te⟩ := ha1.gs.shape; subst te; clear ha1)
              | (go_at_call 22; refine (HX22.out _ BA1.out).mono ?_; rintro e wa2 ⟨ua2, rfl, ha2⟩; have HA2 := Lib.hid ha2.gs; have KA1 := Lib.hid (HA1.out.call ha2.2.1); have BA2 := Lib.hid (BA1.out.trans (ha2.2.1.mono BA1.out.size)); obtain ⟨ra, rb', rc, re⟩ := ha2.gs.shape; subst re; clear ha2)
              | (go_at_call 20; refine (sameG _ _ fu fu _ KA1.out HA2.out hfz.out).mono ?_; rintro e wa3 ⟨rfl, hb3⟩; rw [decide_eq_true rfl]; have BA3 := Lib.hid (BA2.out.trans (hb3.mono BA2.out.size)); clear hb3)
              | (go_at_call 24; refine (HX24.out _ BA3.out).mono ?_; rintro e wa4 ⟨ua4, rfl, ha4, hb4⟩; have HA4 := Lib.hid ha4; have BA4 := Lib.hid (BA3.out.trans (hb4.mono BA3.out.size)); obtain ⟨sa, sb, sc, se⟩ := ha4.shape; subst se; clear ha4 hb4)
              | (go_at_call 25; refine (HX25.out _ BA4.out).mono ?_; rintro e wa5 ⟨ua5, rfl, ha5, hb5⟩; have HA5 := Lib.hid ha5; have KA4 := Lib.hid (HA4.out.call hb5); have BA5 := Lib.hid (BA4.out.trans (hb5.mono BA4.out.size)); obtain ⟨qa, qb, qc, qe⟩ := ha5.shape; subst qe; clear ha5 hb5)
              | (go_at_call 23; refine (sameI16 _ _ ch ch _ KA4.out HA5.out hcz.out hcz.out).mono ?_; rintro e wa6 ⟨rfl, hb6⟩; rw [decide_eq_true rfl]; have BA6 := Lib.hid (BA5.out.trans (drB hb6 _)); clear hb6))
            go_roundw
            case rel => exact ⟨k + 1, by omega, by go_num, BA6.out⟩
            case measure => simp [intOf]; omega
          · obtain rfl : k = L.length := by omega
            go_wp2_with (first | (go_at_call 19; refine (routeRuns_any _).mono ?_; rintro e wz ⟨rfl, hbz⟩; have BZ := Lib.hid (HW.out.trans (hbz.mono HW.out.size)); clear hbz))
            go_ret
            exact ⟨rfl, HBW.out.trans (BZ.out.mono HBW.out.size)⟩
      · have hr : rtB L = false := by simpa using hr
        have HR := Lib.hid hr
        have HX9 := Lib.hid (resolve9_no _ L A3' n3' c3' w3 HL3.out HF.out hr)
        have HX10 := Lib.hid (fun w' hb => refResolve10_no _ L A3' n3' c3' w' (HL3.out.call (w' := w') hb) HF.out HZ.out hr)
        have HX14 := Lib.hid (fun w' hb => named14 _ L s w' (HL3.out.call (w' := w') hb) (by omega))
        have HX15 := Lib.hid (fun w' hb => refNamed15 _ L s w' (HL3.out.call (w' := w') hb) (by omega))
        have erl : Hid ((rvL L s qs).length ≤ 1000000000) := rvL_len _ _ _
        have HX16 := Lib.hid (fun w' hb => reverse16 _ L s _ qs w' (HL3.out.call (w' := w') hb) HF.out (HQ3.out.call hb) hql.out hqs.out)
        have HX17 := Lib.hid (fun w' hb => refReverse17 _ L s _ qs w' (HL3.out.call (w' := w') hb) HF.out HZ.out (HQ3.out.call hb) hql.out hqs.out)
        generalize rvL L s qs = rl at *
        generalize rvB L s qs = rb at *
        generalize nmI L s = nm at *
        have hnm : (nm != nm) = false := by simp
        have hrb : (rb != rb) = false := by simp
        clear hr
        go_upto_region 7 with (first
          | (go_at_call 9; refine HX9.out.mono ?_; rintro e w4 ⟨rfl, hb4⟩; have B4 := Lib.hid hb4; clear hb4)
          | (go_at_call 10; refine (HX10.out _ B4.out).mono ?_; rintro e w5 ⟨rfl, hb5⟩; have B5 := Lib.hid (B4.out.trans (hb5.mono B4.out.size)); clear hb5))
        clear HX9 HX10
        go_upto_region 9 with (first
          | (go_at_call 11; refine (right11 _ L _ (HL3.out.call B5.out) HF.out).mono ?_; rintro e w6 ⟨rfl, hb6⟩; rw [HR.out]; have B6 := Lib.hid (B5.out.trans (hb6.mono B5.out.size)); clear hb6)
          | (go_at_call 12; refine (refRight12 _ L _ (HL3.out.call B6.out) HF.out HZ.out).mono ?_; rintro e w7 ⟨rfl, hb7⟩; rw [HR.out]; have B7 := Lib.hid (B6.out.trans (hb7.mono B6.out.size)); clear hb7)
          | (go_at_call 13; refine (sameP _ _ [] [] _ (ps_nil0 _) (ps_nil0 _) (by simp)).mono ?_; rintro e w8 ⟨rfl, hb8⟩; rw [decide_eq_true rfl]; have B8 := Lib.hid (B7.out.trans (hb8.mono B7.out.size)); clear hb8)
          | (go_at_call 14; refine (HX14.out _ B8.out).mono ?_; rintro e w9 ⟨rfl, hb9⟩; have B9 := Lib.hid (B8.out.trans (hb9.mono B8.out.size)); clear hb9)
          | (go_at_call 15; refine (HX15.out _ B9.out).mono ?_; rintro e wa ⟨rfl, hba⟩; have Ba := Lib.hid (B9.out.trans (hba.mono B9.out.size)); clear hba))
        clear HX14 HX15
        go_upto_region 11 with (first
          | (go_at_call 16; refine (HX16.out _ Ba.out).mono ?_; rintro e w16 ⟨u16, rfl, h16, hb16⟩; have H16 := Lib.hid h16; have B16 := Lib.hid (Ba.out.trans (hb16.mono Ba.out.size)); obtain ⟨aa, ab, ad, ae⟩ := h16.shape; subst ae; clear h16 hb16)
          | (go_at_call 17; refine (HX17.out _ B16.out).mono ?_; rintro e w17 ⟨u17, rfl, h17, hb17⟩; have H17 := Lib.hid h17; have B17 := Lib.hid (B16.out.trans (hb17.mono B16.out.size)); have K16 := Lib.hid (H16.out.call hb17); obtain ⟨ba, bb, bd, be⟩ := h17.shape; subst be; clear h17 hb17))
        clear HX16 HX17 H16
        go_wp2_with (first
          | (go_at_call 18; refine (sameS _ _ rl rl _ K16.out H17.out erl.out).mono ?_; rintro e w18 ⟨rfl, hb18⟩; rw [decide_eq_true rfl]; have B18 := Lib.hid (B17.out.trans (hb18.mono B17.out.size)); clear hb18)
          | (go_at_call 12; refine (refRight12 _ L _ (HL3.out.call B18.out) HF.out HZ.out).mono ?_; rintro e w19 ⟨rfl, hb19⟩; rw [HR.out]; have B19 := Lib.hid (B18.out.trans (hb19.mono B18.out.size)); clear hb19)
          | (go_at_call 19; refine (routeRuns_any _).mono ?_; rintro e wz ⟨rfl, hbz⟩; have BZ := Lib.hid (B19.out.trans (hbz.mono B19.out.size)); clear hbz))
        go_ret
        exact ⟨rfl, HBW.out.trans (BZ.out.mono HBW.out.size)⟩
end Go.Proofs.YtnnmbpghkflepaaGreatDoor

namespace Go.Proofs.YtnnmbpghkflepaaGreatDoor
open Go.ChangeShapes Go.WideShapes Go.ChangeAt Go.RowKit Go.Deep

theorem cells3 : Tryz.prog.cellsOf 3 = 1 := by kernel_rfl
theorem cells9 : Tryz.prog.cellsOf 9 = 1 := by kernel_rfl
theorem cells25 : Tryz.prog.cellsOf 25 = 7 := by kernel_rfl
theorem cells23 : Tryz.prog.cellsOf 23 = 1 := by kernel_rfl
theorem laid : laidOutB Tryz.prog = true := by kernel_rfl
theorem reads25 : Tryz.prog.readableRec 25 = true := by kernel_rfl
theorem array7 {α : Type} {cs : Array α} (h : cs.size = 7) : ∃ c0 c1 c2 c3 c4 c5 c6, cs = #[c0, c1, c2, c3, c4, c5, c6] := by
  obtain ⟨l⟩ := cs
  match l, h with
  | [c0, c1, c2, c3, c4, c5, c6], _ => exact ⟨c0, c1, c2, c3, c4, c5, c6, rfl⟩

variable {H : Type} {enc : TypeId × Value → H} {W : World} {held : Bool}

theorem ia_of {v : Value} {n : Nat} {y : DataW H × List MemPlace} (h : DataW.trod enc Tryz.prog W 0 (fun _ => true) held n 23 [v] = some y) : ∃ A l c f, v = .slice A l c ∧ Ia W A l f := by
  rcases open_ints Tryz.underlying23 Tryz.underlying3 cells3 h with ⟨hcs, _⟩ | ⟨a, len, cap, zs, hcs, _, hl, hm, hz, _, hcell, _⟩
  · simp at hcs
    exact ⟨none, 0, 0, fun _ => 0, hcs, by omega, fun i hi => by omega⟩
  · simp at hcs
    simp at hz
    refine ⟨some a, len, cap, fun i => zs.getD i 0, hcs, by unfold maxLen at hm; omega, fun i hi => ?_⟩
    obtain ⟨b, off, spot⟩ := a
    have hspot : spot = none := by simpa [Addr.add] using World.cell?_spot (hcell 0 (by omega))
    subst hspot
    refine ⟨b, off, rfl, ?_⟩
    have := hcell i (by omega)
    rw [Addr.add_lit] at this
    exact this

set_option maxRecDepth 100000 in
theorem open_table {r : Reach} {b0 : Nat} {v : Value} {d : DataW H} {ps : List MemPlace} (hv : Value.okWide Tryz.prog W r b0 25 v) (h : DataW.Trod enc Tryz.prog W 0 (fun _ => true) held 25 v d ps) :
    ∃ A0 n0 c0 A1 n1 c1 A2 n2 c2 A3 n3 c3 A4 n4 c4 A5 n5 c5 A6 n6 c6 f0 f1 f2 f3 f4 f5 f6, v = .agg #[.slice A0 n0 c0, .slice A1 n1 c1, .slice A2 n2 c2, .slice A3 n3 c3, .slice A4 n4 c4, .slice A5 n5 c5, .slice A6 n6 c6] ∧ Ia W A0 n0 f0 ∧ Ia W A1 n1 f1 ∧ Ia W A2 n2 f2 ∧ Ia W A3 n3 f3 ∧ Ia W A4 n4 f4 ∧ Ia W A5 n5 f5 ∧ Ia W A6 n6 f6 := by
  obtain ⟨cs, rfl, hsz⟩ := okWide_struct Tryz.underlying25 hv
  obtain ⟨v0, v1, v2, v3, v4, v5, v6, rfl⟩ := array7 (hsz.trans cells25)
  obtain ⟨fuel, hf⟩ := h
  obtain ⟨xs, n, _, hx, hl, hlen, hf⟩ := DataW.trod_struct Tryz.underlying25 hf
  clear hx hl
  match xs, hlen with
  | [y0, y1, y2, y3, y4, y5, y6], _ =>
    obtain ⟨A0, n0, c0, f0, rfl, k0⟩ := ia_of (W := W) (enc := enc) (held := held) (v := v0) (y := y0) (n := n) (by simpa [Value.cells, cells23] using hf 0 _ rfl)
    obtain ⟨A1, n1, c1, f1, rfl, k1⟩ := ia_of (W := W) (enc := enc) (held := held) (v := v1) (y := y1) (n := n) (by simpa [Value.cells, cells23] using hf 1 _ rfl)
    obtain ⟨A2, n2, c2, f2, rfl, k2⟩ := ia_of (W := W) (enc := enc) (held := held) (v := v2) (y := y2) (n := n) (by simpa [Value.cells, cells23] using hf 2 _ rfl)
    obtain ⟨A3, n3, c3, f3, rfl, k3⟩ := ia_of (W := W) (enc := enc) (held := held) (v := v3) (y := y3) (n := n) (by simpa [Value.cells, cells23] using hf 3 _ rfl)
    obtain ⟨A4, n4, c4, f4, rfl, k4⟩ := ia_of (W := W) (enc := enc) (held := held) (v := v4) (y := y4) (n := n) (by simpa [Value.cells, cells23] using hf 4 _ rfl)
    obtain ⟨A5, n5, c5, f5, rfl, k5⟩ := ia_of (W := W) (enc := enc) (held := held) (v := v5) (y := y5) (n := n) (by simpa [Value.cells, cells23] using hf 5 _ rfl)
    obtain ⟨A6, n6, c6, f6, rfl, k6⟩ := ia_of (W := W) (enc := enc) (held := held) (v := v6) (y := y6) (n := n) (by simpa [Value.cells, cells23] using hf 6 _ rfl)
    exact ⟨A0, n0, c0, A1, n1, c1, A2, n2, c2, A3, n3, c3, A4, n4, c4, A5, n5, c5, A6, n6, c6, f0, f1, f2, f3, f4, f5, f6, rfl, k0, k1, k2, k3, k4, k5, k6⟩
end Go.Proofs.YtnnmbpghkflepaaGreatDoor
