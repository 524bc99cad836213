/-
  RouteChains, walked.
-/
import Derived.Test.YtnnmbpghkflepaaGreatDoorRecQ
import Derived.Test.YtnnmbpghkflepaaGreatDoorKRec
import Derived.Test.YtnnmbpghkflepaaGreatDoorRuns
import Derived.Test.YtnnmbpghkflepaaGreatDoorSameG
namespace Go.Proofs.YtnnmbpghkflepaaGreatDoor
open Go.RowKit Go.PlainAid
set_option maxRecDepth 100000

theorem Gs.rest {w : World} {A : Option Addr} {n c : Nat} {l : List Sg} (h : Gs w (.slice A n c) l) (k : Nat) (hk : k ≤ l.length) : Gs w (.slice (if c = k then A else Option.map (fun x => x.add (k * 2)) A) (l.length - k) (c - k)) (l.drop k) := by
  obtain ⟨A', cap, e, h2, h3, h4⟩ := h
  cases e
  by_cases hkc : c = k
  · subst hkc
    have hl : l.length = c := by omega
    rw [if_pos rfl]
    refine ⟨A, c - c, by rw [List.length_drop], by rw [List.length_drop]; omega, fun _ => by omega, fun i hi => ?_⟩
    rw [List.length_drop] at hi
    omega
  · rw [if_neg hkc]
    refine ⟨_, c - k, by rw [List.length_drop], by rw [List.length_drop]; omega, ?_, fun i hi => ?_⟩
    · intro e
      cases A with
      | none => have := h3 rfl; omega
      | some a => cases e
    · rw [List.length_drop] at hi
      obtain ⟨b, o, ha, hc, hd⟩ := h4 (k + i) (by omega)
      subst ha
      have e1 : (l.drop k).getD i default = l.getD (k + i) default := by simp [List.getD, List.getElem?_drop]
      rw [e1]
      refine ⟨b, o + k * 2, congrArg some (Addr.add_lit ..), ?_, ?_⟩
      · have : o + k * 2 + i * 2 = o + (k + i) * 2 := by omega
        rw [this]; exact hc
      · have : o + k * 2 + i * 2 + 1 = o + (k + i) * 2 + 1 := by omega
        rw [this]; exact hd

set_option maxHeartbeats 25600000 in
theorem routeChains4 (w : World) (at' : Int) {A0 A1 A2 A3 A4 A5 A6 : Option Addr} {n0 n1 n2 n3 n4 n5 n6 c0 c1 c2 c3 c4 c5 c6 : Nat} {f0 f1 f2 f3 f4 f5 f6 : Nat → Int} (h0 : Ia w A0 n0 f0) (h1 : Ia w A1 n1 f1) (h2 : Ia w A2 n2 f2) (h3 : Ia w A3 n3 f3) (h4 : Ia w A4 n4 f4) (h5 : Ia w A5 n5 f5) (h6 : Ia w A6 n6 f6) :
    Calls Tryz.prog 4 #[.agg #[.slice A0 n0 c0, .slice A1 n1 c1, .slice A2 n2 c2, .slice A3 n3 c3, .slice A4 n4 c4, .slice A5 n5 c5, .slice A6 n6 c6], .int .i64 at'] w fun e w' => e = .returned (.bool true) ∧ Below w.heap.size w w' := by
  have HB := Lib.hid ((Below.refl w.heap.size w).alloc (Nat.le_refl _) (.cells #[.slice A0 n0 c0, .slice A1 n1 c1, .slice A2 n2 c2, .slice A3 n3 c3, .slice A4 n4 c4, .slice A5 n5 c5, .slice A6 n6 c6] 25 (0, 0)))
  have HRC := Lib.hid (records7 (w.alloc (.cells #[.slice A0 n0 c0, .slice A1 n1 c1, .slice A2 n2 c2, .slice A3 n3 c3, .slice A4 n4 c4, .slice A5 n5 c5, .slice A6 n6 c6] 25 (0, 0))) (c0 := c0) (c1 := c1) (c2 := c2) (c3 := c3) (c4 := c4) (c5 := c5) (c6 := c6) (h0.call HB.out) (h1.call HB.out) (h2.call HB.out) (h3.call HB.out) (h4.call HB.out) (h5.call HB.out) (h6.call HB.out))
  clear h0 h1 h2 h3 h4 h5 h6
  go_enter Tryz.func4, Tryz.ntmps4
  go_upto_region 2 with (first | (go_at_call 7; refine HRC.out.mono ?_; rintro e w1 ⟨v1, l, ds, rfl, ho, hok⟩; have HO := Lib.hid (ho.rebase HB.out.size HB.out); have HK := Lib.hid hok; obtain ⟨P4, q4, e4⟩ := ho.rs.len; subst e4; clear ho hok))
  clear HRC
  obtain ⟨m, hm⟩ : ∃ m, l.length = m + 1 := ⟨l.length - 1, by have := HK.out.len1; omega⟩
  have hm7 : m ≤ 7 := by have := HK.out.len8; omega
  have eL : ((l.length : Nat) : Int) - 1 = (m : Int) := by omega
  have HM := Lib.hid hm
  have HR := Lib.hid HO.out.rs
  have HB1 := Lib.hid HO.out.below
  have HP := Lib.hid HK.out.par
  have HF := Lib.hid HK.out.fit
  clear hm
  go_upto_region 3 with (first | (go_at_call 26; refine (within19 _ m _ (by omega)).mono ?_; rintro e w' ⟨i, him, rfl, hw⟩; rw [hw]; clear hw))
  have hil : i < l.length := by have := HM.out; omega
  have HLK := Lib.hid (ch_links HP.out _ i (Nat.lt_succ_self i) hil)
  have HCL := Lib.hid (ch_lt l i)
  have HC8 := Lib.hid (ch_len l i)
  have HFS := Lib.hid (fu_step HP.out i hil)
  have HNM := Lib.hid (HK.out.named i hil)
  have HCH := Lib.hid (chain24 _ l i _ HR.out (by omega))
  generalize chL l i = c at *
  go_upto_region 4 with (first | (go_at_call 24; refine HCH.out.mono ?_; rintro e w2 ⟨u2, rfl, h2, hb2⟩; have HN := Lib.hid h2; have HB2 := Lib.hid (HB1.out.trans (hb2.mono HB1.out.size)); have HR2 := Lib.hid (HR.out.call hb2); obtain ⟨A2', q2, e2, -, -, hcc⟩ := h2; subst e2; have HCC := Lib.hid hcc; clear hb2 hcc))
  clear HCH
  obtain ⟨cl, hcl⟩ : ∃ cl, c.length = cl + 1 := ⟨c.length - 1, by have := HLK.out.1; omega⟩
  have hcl8 : c.length ≤ 8 := by have := HC8.out; omega
  have ec : ((c.length : Nat) : Int) - 1 = (cl : Int) := by omega
  have ec1 : ¬ ((c.length : Nat) : Int) < 1 := by omega
  have ec2 : (cl : Int) < ((c.length : Nat) : Int) := by omega
  obtain ⟨bc, oc, eA, hccl⟩ := HCC.out cl (by omega)
  have elast : c.getD cl 0 = i := by have := HLK.out.2.1; rw [hcl, Nat.add_sub_cancel] at this; exact this
  rw [elast] at hccl
  subst eA
  clear elast hcl
  go_wp2_with fail
  go_loopw [39] (fun s39 wr => ∃ k : Nat, k ≤ c.length ∧ s39 = .int .i64 k ∧ wr = w2) (fun s39 _ => c.length - (intOf s39).toNat)
  case atStart => exact ⟨0, Nat.zero_le _, rfl, rfl⟩
  case round =>
    obtain ⟨k, hk, rfl, hwr⟩ := hrel
    rw [hwr]
    clear hwr
    by_cases hlt : k < c.length
    · have d0 : (k : Int) < (c.length : Int) := by omega
      obtain ⟨bx, ox, ex, hck⟩ := HCC.out k hlt
      obtain ⟨rfl, rfl, -⟩ := Addr.mk.inj (Option.some.inj ex)
      have hy := HCL.out (c.getD k 0) (nat_mem c k hlt)
      have hpy := HLK.out.2.2 k hlt
      obtain ⟨b4, o4, e4, hat, -⟩ := HR2.out.at (c.getD k 0) hy
      subst e4
      have g1 := hat.c1
      rw [hpy] at g1
      clear hat hpy ex
      generalize c.getD k 0 = y at *
      have dy : (y : Int) < (l.length : Int) := by omega
      have dy0 : ¬ (l.length : Int) ≤ (y : Int) := by omega
      by_cases h0 : k = 0
      · subst h0
        rw [if_pos rfl] at g1
        rw [Nat.add_zero] at hck
        go_wp2_with fail
        go_roundw
        case rel => exact ⟨1, by omega, by go_num, trivial⟩
        case measure => simp [intOf]; omega
      · obtain ⟨j, hj⟩ : ∃ j, k = j + 1 := ⟨k - 1, by omega⟩
        have e1 : k - 1 = j := by omega
        rw [if_neg h0, e1] at g1
        obtain ⟨bx, ox, ex, hcj⟩ := HCC.out j (by omega)
        obtain ⟨rfl, rfl, -⟩ := Addr.mk.inj (Option.some.inj ex)
        clear ex e1
        generalize c.getD j 0 = z at *
        have ej : (k : Int) - 1 = (j : Int) := by omega
        have dj : (j : Int) < (c.length : Int) := by omega
        have dk0 : (0 : Int) < (k : Int) := by omega
        clear hj h0
        go_wp2_with fail
        go_roundw
        case rel => exact ⟨k + 1, by omega, by go_num, trivial⟩
        case measure => simp [intOf]; omega
    · obtain rfl : k = c.length := by omega
      clear HCC HLK HCL HC8 ec ec1 ec2 hccl hcl8 hk hlt HN
      obtain ⟨b4, o4, e4, hat, hgs⟩ := HR2.out.at i hil
      subst e4
      have HFU := Lib.hid (full21 _ l i w2 HR2.out HF.out)
      rw [HFS.out] at HFU
      obtain ⟨F0, hF0⟩ : ∃ F0, F0 = (if 0 ≤ (l.getD i default).p then fuL l (l.getD i default).p else []) := ⟨_, rfl⟩
      rw [← hF0] at HFU
      have HFF := Lib.hid hF0
      have HPI := Lib.hid (HP.out i hil)
      have hown10 : (l.getD i default).l.length ≤ 10 := HF.out.2 _ (getD_mem l i hil)
      have hF200 : F0.length ≤ 200 := by
        rw [hF0]
        split
        · exact fu_len HF.out _
        · simp
      clear hF0 HFS
      generalize hri : l.getD i default = r at *
      have HRI := Lib.hid hri
      clear hri
      obtain ⟨A7, c7, h7⟩ : ∃ A c, r.u = .slice A r.l.length c := (by obtain ⟨A, c, e, _⟩ := hgs; exact ⟨A, c, e⟩)
      have dil : (i : Int) < (l.length : Int) := by omega
      go_upto_region 16 with (first | (go_at_call 21; refine HFU.out.mono ?_; rintro e w3 ⟨u3, rfl, h3⟩; have H3 := Lib.hid h3; have R3 := Lib.hid (HR2.out.call h3.2.1); have G7 := Lib.hid (hgs.call h3.2.1); have T3 := Lib.hid (hat.call h3.2.1); have HB3 := Lib.hid (HB2.out.trans (h3.2.1.mono HB2.out.size)); obtain ⟨A8, c8, e8⟩ : ∃ A c, u3 = .slice A (F0 ++ r.l).length c := (by obtain ⟨A, c, e, _⟩ := h3.gs; exact ⟨A, c, e⟩); subst e8; clear h3))
      have g0 := T3.out.c0
      have g1 := T3.out.c1
      have g2 := T3.out.c2
      rw [h7] at g2 G7
      have G3 := Lib.hid H3.out.gs
      have hle : F0.length ≤ (F0 ++ r.l).length := by simp
      have GR := Lib.hid (G3.out.rest F0.length hle)
      have GT := Lib.hid (G3.out.take F0.length hle)
      rw [List.drop_left] at GR
      rw [List.take_left] at GT
      have hsub : (F0 ++ r.l).length - F0.length = r.l.length := by simp
      rw [hsub] at GR
      obtain ⟨AX, hAX⟩ : ∃ AX, (if c8 = F0.length then A8 else Option.map (fun x => x.add (F0.length * 2)) A8) = AX := ⟨_, rfl⟩
      rw [hAX] at GR
      have hcapG : (F0 ++ r.l).length ≤ c8 := by obtain ⟨A', c', e', h', _⟩ := G3.out; cases e'; exact h'
      have eS : (((F0 ++ r.l).length : Nat) : Int) - (r.l.length : Int) = (F0.length : Int) := by rw [List.length_append]; omega
      have dlt : ¬ (((F0 ++ r.l).length : Nat) : Int) < (r.l.length : Int) := by rw [List.length_append]; omega
      have hF210 : (F0 ++ r.l).length ≤ 210 := by rw [List.length_append]; omega
      generalize (F0 ++ r.l).length = NF at *
      have d7 : (F0.length : Int) ≤ (NF : Int) := by omega
      have d8 : (NF : Int) ≤ (c8 : Int) := by omega
      have d9 : (F0.length : Int) ≤ (c8 : Int) := by omega
      clear hat hgs h7
      go_upto_region 19 with (first | (go_at_call 20; refine (sameG _ _ r.l r.l _ GR.out G7.out (by omega)).mono ?_; rintro e w4 ⟨rfl, hb4⟩; rw [decide_eq_true rfl]; have R4 := Lib.hid (R3.out.call hb4); have T4 := Lib.hid (T3.out.call hb4); have GT4 := Lib.hid (GT.out.call hb4); have HB4 := Lib.hid (HB3.out.trans (hb4.mono HB3.out.size)); clear hb4 g0 g1 g2))
      have g0 := T4.out.c0
      have g1 := T4.out.c1
      clear T3 T4 GR G7 hAX G3 H3 R3 HFU
      obtain ⟨hp1, hp2⟩ := HPI.out
      by_cases hp : 0 ≤ r.p
      · obtain ⟨q, hq⟩ : ∃ q : Nat, r.p = (q : Int) := ⟨r.p.toNat, by omega⟩
        have HF0 : Hid (F0 = fuL l (q : Nat)) := by have := HFF.out; rw [if_pos hp, hq] at this; exact this
        rw [hq] at g1
        have dq0 : ¬ (q : Int) < 0 := by omega
        have hql : q < l.length := by omega
        clear hp hp1 hp2 hq
        go_wp2_with (first
          | (go_at_call 21; refine (full21 _ l q _ R4.out HF.out).mono ?_; rintro e w5 ⟨u5, rfl, h5⟩; have G5 := Lib.hid h5.gs; have R5 := Lib.hid (R4.out.call h5.2.1); have GT5 := Lib.hid (GT4.out.call h5.2.1); have HB5 := Lib.hid (HB4.out.trans (h5.2.1.mono HB4.out.size)); have k0 : w5.cell? ⟨b4, o4 + i * 8, none⟩ = some (.string r.n) := (by rw [h5.2.1.cell (World.block_lt_of_cell? _ _ g0)]; exact g0); have K0 := Lib.hid k0; obtain ⟨A9, n9, c9, e9⟩ := h5.gs.shape; subst e9; clear h5)
          | (go_at_call 20; refine (sameG _ _ F0 (fuL l (q : Nat)) _ GT5.out G5.out (by omega)).mono ?_; rintro e w6 ⟨rfl, hb6⟩; rw [decide_eq_true HF0.out]; have R6 := Lib.hid (R5.out.call hb6); have HB6 := Lib.hid (HB5.out.trans (hb6.mono HB5.out.size)); have k1 : w6.cell? ⟨b4, o4 + i * 8, none⟩ = some (.string r.n) := (by rw [hb6.cell (World.block_lt_of_cell? _ _ K0.out)]; exact K0.out); clear hb6)
          | (go_at_call 14; refine (named14 _ l r.n _ R6.out (by omega)).mono ?_; rintro e w7 ⟨rfl, hb7⟩; rw [HNM.out]; have HB7 := Lib.hid (HB6.out.trans (hb7.mono HB6.out.size)); clear hb7)
          | (go_at_call 19; refine (routeRuns_any _).mono ?_; rintro e w8 ⟨rfl, hb8⟩; have HB8 := Lib.hid (HB7.out.trans (hb8.mono HB7.out.size)); clear hb8))
        go_ret
        exact ⟨rfl, HB8.out⟩
      · have hF0 : F0 = [] := by have := HFF.out; rw [if_neg hp] at this; exact this
        have hp3 : r.p = -1 := by omega
        rw [hp3] at g1
        subst hF0
        clear hp hp1 hp2 hp3
        go_wp2_with (first
          | (go_at_call 14; refine (named14 _ l r.n _ R4.out (by omega)).mono ?_; rintro e w7 ⟨rfl, hb7⟩; rw [HNM.out]; have HB7 := Lib.hid (HB4.out.trans (hb7.mono HB4.out.size)); clear hb7)
          | (go_at_call 19; refine (routeRuns_any _).mono ?_; rintro e w8 ⟨rfl, hb8⟩; have HB8 := Lib.hid (HB7.out.trans (hb8.mono HB7.out.size)); clear hb8))
        go_ret
        exact ⟨rfl, HB8.out⟩
end Go.Proofs.YtnnmbpghkflepaaGreatDoor
