/-
  The reference's Parse.
-/
import Derived.Test.YthigandmemifoaaGreatDoorP24
import Derived.Test.YthigandmemifoaaGreatDoorG01
import Derived.Test.YthigandmemifoaaGreatDoorP29
import Derived.Deep.DeepCutAuto
namespace Go.Proofs.YthigandmemifoaaGreatDoor
open Go.RowKit Go.PlainAid
set_option maxRecDepth 100000

theorem blk_set2' {w : World} {b : Nat} {x0 y0 : Value} {t : TypeId} (h : w.heap[b]? = some (.cells #[x0, y0] t (0, 0))) (x y : Value) : ((w.setCell ⟨b, 0, none⟩ x).setCell ⟨b, 1, none⟩ y).heap[b]? = some (.cells #[x, y] t (0, 0)) :=
  blk_setCell (blk_setCell h 0 x) 1 y

/-- the ends that refuse -/
theorem split33s (s : ByteArray) (m : Int) (w : World) (hs : s.size ≤ 10000) :
    Calls Tryz.prog 47 #[.string s, .int .u8 m] w fun e w' => ∃ v, e = .returned v ∧ OwnS w.heap.size w v (spl m s) w' := split33 s m w (by omega)
theorem par_end {tmps : Array Value} {w w8 : World} {s : ByteArray} {X : Nat} (ht : tmps.getD 2 undef = .pointer (some ⟨X, 0, none⟩)) (h3 : tmps.getD 3 undef = .int .i64 1) (hX : ∃ x y, w8.heap[X]? = some (.cells #[x, y] 33 (0, 0)))
    (hp : parB s = false ∧ parP s = [] ∧ parQ s = []) (hb : Below w.heap.size w w8) (hl : w.heap.size ≤ X) :
    bodyPost Tryz.prog Tryz.f29 (fun e w' => ∃ v1 v2, e = .returned (.tuple #[.agg #[v1, v2], .int .i64 (erI (parB s))]) ∧ Ss w' v1 (parP s) ∧ Ps w' v2 (parQ s) ∧ Below w.heap.size w w') .ret ⟨tmps, []⟩ ((w8.setCell ⟨X, 0, none⟩ (.slice none 0 0)).setCell ⟨X, 1, none⟩ (.slice none 0 0)) := by
  obtain ⟨x, y, hX⟩ := hX
  obtain ⟨c0, c1, _, _⟩ := blk2 (blk_set2' hX (.slice none 0 0) (.slice none 0 0))
  rw [hp.1, hp.2.1, hp.2.2]
  refine bodyPost_ret (v := .tuple #[.agg #[.slice none 0 0, .slice none 0 0], .int .i64 1]) ?_ rfl ⟨_, _, rfl, ss_nil _, ps_nil _, (hb.setCell hl _).setCell hl _⟩
  rw [results_cell_tmp rfl, ht, h3]
  generalize (w8.setCell ⟨X, 0, none⟩ (.slice none 0 0)).setCell ⟨X, 1, none⟩ (.slice none 0 0) = w9 at *
  go_simp

theorem two_cases (x : ByteArray) : (2 < (spl 61 x).length ∧ rxB 61 2 x = false) ∨ (∃ a, spl 61 x = [a] ∧ rxB 61 2 x = decB a ∧ (decB a = true → prV x = (decS a, ⟨#[]⟩))) ∨ (∃ a b, spl 61 x = [a, b] ∧ rxB 61 2 x = (decB a && decB b) ∧ (decB a = true → decB b = true → prV x = (decS a, decS b))) := by
  have h1 := spl_ne 61 x
  by_cases hl : 2 < (spl 61 x).length
  · left
    refine ⟨hl, ?_⟩
    rw [rxB, splB, decide_eq_false (by omega)]
    rfl
  · right
    have hs : splB 61 2 x = true := decide_eq_true (by omega)
    match hsp : spl 61 x, h1, hl with
    | [a], _, _ =>
      left
      have e : rxB 61 2 x = decB a := by rw [rxB, hs, hsp]; simp
      refine ⟨a, rfl, e, fun ha => ?_⟩
      rw [prV, rxL, e, ha, hsp]
      rfl
    | [a, b], _, _ =>
      right
      have e : rxB 61 2 x = (decB a && decB b) := by rw [rxB, hs, hsp]; simp
      refine ⟨a, b, rfl, e, fun ha hb => ?_⟩
      rw [prV, rxL, e, ha, hb, hsp]
      rfl
    | a :: b :: c :: r, _, hl => simp at hl
theorem hvs1_two (s y : ByteArray) (h : hvs1 s = [y]) : rqB' (hvs1 s) = (spl 38 y).all (rxB 61 2) ∧ rqL' (hvs1 s) = (spl 38 y).map prV := by
  rw [h]
  exact ⟨by rw [rqB', decide_eq_false (by simp)]; rfl, by rw [rqL', if_neg (by simp)]; rfl⟩
theorem hvs1_one (s : ByteArray) (h : (spl 63 s).length ≤ 1) : rqB' (hvs1 s) = true ∧ rqL' (hvs1 s) = [] := by
  have e : hvs1 s = [] := by rw [hvs1]; exact List.drop_eq_nil_of_le h
  rw [e]
  exact ⟨rfl, rfl⟩
theorem hvs1_get (s : ByteArray) (h : (spl 63 s).length = 2) : hvs1 s = [(spl 63 s).getD 1 default] := by
  rw [hvs1]
  match spl 63 s, h with
  | [a, b], _ => rfl

theorem hv0_def (s : ByteArray) : (spl 63 s).getD 0 default = hv0 s := rfl
theorem tlS_def (h : ByteArray) : h.extract 1 h.size = utlS h := rfl
theorem hvs1_def (s : ByteArray) : (spl 63 s).drop 1 = hvs1 s := rfl

attribute [local irreducible] hv0 hvs1 utlS spl parB parP parQ upB' rpL' rqB' rqL' decB decS rxB prV splB

set_option maxRecDepth 100000 in
set_option maxHeartbeats 6400000 in
theorem parse14 (s : ByteArray) (w : World) (hs : s.size ≤ 10000) :
    Calls Tryz.prog 29 #[.string s] w fun e w' => ∃ v1 v2, e = .returned (.tuple #[.agg #[v1, v2], .int .i64 (erI (parB s))]) ∧ Ss w' v1 (parP s) ∧ Ps w' v2 (parQ s) ∧ Below w.heap.size w w' := by
  have gb := get_bt s
  have HK := Lib.hid (blk_new w (.cells #[.slice none 0 0, .slice none 0 0] 33 (0, 0)))
  have HB := Lib.hid ((Below.refl w.heap.size w).alloc (Nat.le_refl _) (.cells #[.slice none 0 0, .slice none 0 0] 33 (0, 0)))
  have hl2 := spl_ne 63 s
  by_cases hB : splB 63 2 s = true
  · have hl1 : (spl 63 s).length ≤ 2 := by rw [splB] at hB; exact of_decide_eq_true hB
    have c6 : decide ((2 : Int) < ((spl 63 s).length : Int)) = false := decide_eq_false (by omega)
    by_cases h0 : s.size ≠ 0 ∧ bt s 0 = 47
    · obtain ⟨E1, E2⟩ := ref_same s h0 hB
      obtain ⟨hz1, hz2⟩ := hv0_size s h0.1 h0.2
      have HE1 := Lib.hid E1
      have HE2 := Lib.hid E2
      clear E1 E2
      obtain ⟨c1, c2⟩ := h0
      have c3 : ¬ (s.size : Int) = 0 := by omega
      have c4 : ((s.size : Int) == 0) = false := by simpa using c3
      have c5 : (0 : Int) < (s.size : Int) := by omega
      go_enter Tryz.func29, Tryz.ntmps29
      go_wp2_with fail
      generalize w.alloc (.cells #[.slice none 0 0, .slice none 0 0] 33) = w5 at *
      refine (split33s _ _ _ hs).mono ?_
      rintro e w1 ⟨v1, rfl, h1⟩
      obtain ⟨A, cap, rfl, hcap, _, hc⟩ := h1.ss
      obtain ⟨b, o, rfl, hc0⟩ := hc 0 hl2
      rw [Nat.add_zero] at hc0
      have e2 := hv0_def s
      rw [e2] at hc0
      have HC := Lib.hid hc
      have HS1 := Lib.hid h1.ss
      have hX := Lib.hid (blk_call HK.out h1.2.1)
      have HB1 := Lib.hid (HB.out.trans (h1.2.1.mono HB.out.size))
      clear h1 hc e2
      have c7 : (0 : Int) < ((spl 63 s).length : Int) := by omega
      have hca : (w1.alloc (.cells #[.slice none 0 0, .slice none 0 0] 33 (0, 0))).cell? ⟨b, o, none⟩ = some (.string (hv0 s)) := by
        rw [World.cell?_alloc_lt _ _ _ (World.block_lt_of_cell? _ _ hc0)]; exact hc0
      go_upto_if 36 with fail
      have HU := Lib.hid (blk_new w1 (.cells #[.slice none 0 0, .slice none 0 0] 33 (0, 0)))
      have HBu := Lib.hid ((Below.refl w1.heap.size w1).alloc (Nat.le_refl _) (.cells #[.slice none 0 0, .slice none 0 0] 33 (0, 0)))
      generalize w1.alloc (.cells #[.slice none 0 0, .slice none 0 0] 33) = w2 at *
      have ltX : w.heap.size < w1.heap.size := blk_lt hX.out
      have HS2 := Lib.hid (HS1.out.call HBu.out)
      clear HS1 HC
      generalize hUn : w1.heap.size = U at *
      have ltU : U < w2.heap.size := blk_lt HU.out
      have HX2 := Lib.hid (blk_call hX.out (by rw [hUn]; exact HBu.out))
      have HB2 := Lib.hid (HB1.out.trans (Below.mono (hUn ▸ HBu.out) (by omega)))
      clear hUn HBu hX HB1 hc0
      have HNp : Hid (upB' (hv0 s) = false → parB s = false ∧ parP s = [] ∧ parQ s = []) := by
        intro h
        have : parB s = false := by rw [HE1.out, h]; rfl
        exact ⟨this, by rw [parP, this]; rfl, by rw [parQ, this]; rfl⟩
      have HNq : Hid (rqB' (hvs1 s) = false → parB s = false ∧ parP s = [] ∧ parQ s = []) := by
        intro h
        have : parB s = false := by rw [HE1.out, h]; simp
        exact ⟨this, by rw [parP, this]; rfl, by rw [parQ, this]; rfl⟩
      have HNr : Hid (rightB (rpL' (hv0 s)) (rqL' (hvs1 s)) = false → parB s = false ∧ parP s = [] ∧ parQ s = []) := by
        intro h
        have : parB s = false := by rw [HE1.out, h]; simp
        exact ⟨this, by rw [parP, this]; rfl, by rw [parQ, this]; rfl⟩
      have hbe : ((hv0 s).toList == [47]) = decide (hv0 s = ⟨#[47]⟩) := by
        have := bs_eq (hv0 s) ⟨#[47]⟩
        rw [Lib.toList_data ⟨#[47]⟩] at this
        exact this
      go_cut [7, 8, 9] from 36 (fun x t ok wc => upB' (hv0 s) = true ∧ ∃ A n c, wc.heap[U]? = some (.cells #[.slice A n c, .slice none 0 0] 33 (0, 0)) ∧ Ss wc (.slice A n c) (rpL' (hv0 s)) ∧ Kp (fun k => k = U) w2 wc)
      case first =>
        by_cases hq : hv0 s = ⟨#[47]⟩
        · rw [decide_eq_true hq] at hbe
          have e1 : upB' (hv0 s) = true := by rw [upB', decide_eq_true hq]; rfl
          have e2 : rpL' (hv0 s) = [] := by rw [rpL', if_pos hq]
          have G1 := Lib.hid e1
          have G2 := Lib.hid e2
          clear e1 e2 hq
          (try rw [hbe])
          go_wp2_with fail
          go_meet
          exact ⟨G1.out, none, 0, 0, HU.out, by rw [G2.out]; exact ss_nil _, Kp.refl _ _⟩
        · rw [decide_eq_false hq] at hbe
          have e1 : upB' (hv0 s) = (spl 47 (utlS (hv0 s))).all decB := by rw [upB', decide_eq_false hq]; rfl
          have e2 : rpL' (hv0 s) = (spl 47 (utlS (hv0 s))).map decS := by rw [rpL', if_neg hq]
          have G1 := Lib.hid e1
          have G2 := Lib.hid e2
          clear e1 e2 hq
          (try rw [hbe])
          have d1 : (1 : Int) ≤ ((hv0 s).size : Int) := by omega
          have htz : (utlS (hv0 s)).size ≤ 10000 := by have := tail_size (hv0 s) 1; rw [utlS]; omega
          have htl := tlS_def (hv0 s)
          go_wp2_with fail
          refine (split33s _ _ _ htz).mono ?_
          rintro e w3 ⟨v3, rfl, h3⟩
          have l3 := spl_len 47 (utlS (hv0 s))
          have hmz := spl_size 47 (utlS (hv0 s))
          have HMZ := Lib.hid hmz
          have H3s := Lib.hid h3.ss
          obtain ⟨A3, cap3, rfl, _, _, _⟩ := h3.ss
          have HB3 := Lib.hid h3.2.1
          have HU3 := Lib.hid (blk_call HU.out h3.2.1)
          have HX3 := Lib.hid (blk_call HX2.out h3.2.1)
          clear h3 hmz htl
          have lt3 : U < w3.heap.size := blk_lt HU3.out
          generalize spl 47 (utlS (hv0 s)) = L at *
          go_wp2_with fail
          go_loopw [43] (fun i wr => ∃ (k : Nat), k ≤ L.length ∧ i = .int .i64 k ∧ (L.take k).all decB = true ∧ MemS U w3.heap.size w3 (.slice none 0 0) ((L.take k).map decS) wr) (fun i _ => L.length - (intOf i).toNat)
          case atStart => exact ⟨0, Nat.zero_le _, rfl, by simp, none, 0, 0, HU3.out, World.ownsRow_nil _ _ _ _, Kp.refl _ _, Nat.le_refl _⟩
          case round =>
            obtain ⟨k, hk, rfl, hall, hmem⟩ := hrel
            have HM := Lib.hid hmem
            have HA := Lib.hid hall
            clear hmem hall
            by_cases hlt : k < L.length
            · obtain ⟨Am, nm, cm, m1, m2, m3, m4⟩ := HM.out
              obtain ⟨A', cap', e', _, _, hcc⟩ := H3s.out.kp HU3.out m3
              obtain ⟨b3, o3, hA', hcell⟩ := hcc k hlt
              simp only [Value.slice.injEq] at e'
              obtain ⟨rfl, _, rfl⟩ := e'
              subst hA'
              have c0 : (k : Int) < (L.length : Int) := by omega
              have HN := Lib.hid (take_next decS L k hlt)
              have HL := Lib.hid (all_next decB L k hlt)
              have HQ := Lib.hid (all_not decB L k hlt)
              have hsz1 := HMZ.out _ (getD_mem L k hlt)
              clear hcc
              have M1 := Lib.hid m1
              have M2 := Lib.hid m2
              have M3 := Lib.hid m3
              clear m1 m2 m3
              generalize L.getD k default = x at *
              by_cases hp : decB x = true
              · have eb : Hid (((L.take k).map decS).length ≤ 1000000000) := by show _ ≤ _; simp; omega
                go_wp2_with (first | (go_at_call 48; refine (decodeR _ _ (by omega)).mono ?_; rintro e w7 ⟨rfl, h7⟩; rw [hp]; have H7 := Lib.hid h7; clear h7; obtain ⟨k0, k1, k2, k3⟩ := blk2 (blk_call M1.out H7.out)) | (at_builtin; refine wpList_appS _ rfl (.tmp 56) (.tmp 58) rfl w3.heap.size (w7.alloc (.cells #[.string (decS x)] 9 (0, 0))) _ ((L.take k).map decS) rfl ⟨(owns_call M2.out H7.out).alloc _, Below.refl _ _, ?b0⟩ ?b1 w7.heap.size 1 1 [decS x] rfl rfl (by omega) (heap_alloc_new _ _) ?_))
                case b0 => have := H7.out.size; simp; omega
                case b1 => exact eb.out
                intro v8 w8 h8 hg _
                obtain ⟨A8, n8, c8, hv8⟩ := h8.ss.shape
                subst hv8
                obtain ⟨hU8, hm8⟩ := memS_step (xs := (L.take k).map decS) (ys := [decS x]) (blk_call M1.out H7.out) lt3 (owns_call M2.out H7.out) (M3.out.call H7.out) _ (by simpa using h8) hg (Nat.le_refl _)
                obtain ⟨r0, r1, r2, r3⟩ := blk2 hU8
                have H8 := Lib.hid hm8
                clear hm8 h8 hg hU8
                go_wp2_with fail
                go_roundw
                case rel => exact ⟨k + 1, by omega, by go_num, by rw [HL.out, HA.out, hp]; rfl, by rw [HN.out]; exact H8.out⟩
                case measure => simp [intOf]; omega
              · have hp : decB x = false := by simpa using hp
                have HF := Lib.hid (HNp.out (by rw [G1.out]; exact HQ.out hp))
                have hx4 : wr.heap[w.heap.size]? = some (.cells #[.slice none 0 0, .slice none 0 0] 33 (0, 0)) := (M3.out.block _ (by omega) (by omega)).trans HX3.out
                have HX4 := Lib.hid hx4
                clear hx4
                have HB4 := Lib.hid (HB2.out.trans ((HB3.out.mono (by omega)).trans (M3.out.below (B := w.heap.size) (by omega) (fun k hk e => by omega))))
                go_wp2_with (go_at_call 48; refine (decodeR _ _ (by omega)).mono ?_; rintro e w7 ⟨rfl, h7⟩; rw [hp]; have H7 := Lib.hid h7; clear h7; obtain ⟨k0, k1, k2, k3⟩ := blk2 (blk_call HX4.out H7.out))
                exact par_end rfl rfl ⟨_, _, blk_call HX4.out H7.out⟩ HF.out (HB4.out.trans (H7.out.mono HB4.out.size)) (Nat.le_refl _)
            · obtain rfl : k = L.length := by omega
              rw [List.take_length] at HA HM
              obtain ⟨A9, n9, c9, m1, m2, m3⟩ := HM.out.ss
              have M1 := Lib.hid m1
              have M2 := Lib.hid m2
              have M3 := Lib.hid m3
              clear m1 m2 m3
              go_wp2_with fail
              go_meet
              exact ⟨by rw [G1.out]; exact HA.out, A9, n9, c9, M1.out, by rw [G2.out]; exact M2.out, (Kp.of_below HB3.out _).trans M3.out (fun _ _ t => t)⟩
      case rest =>
        obtain ⟨hrp, A9, n9, c9, u1, u2, u3⟩ := hcut
        have R1 := Lib.hid hrp
        have HUc := Lib.hid u1
        have HSc := Lib.hid u2
        have HKc := Lib.hid u3
        clear hrp u1 u2 u3
        have hxc : wc.heap[w.heap.size]? = some (.cells #[.slice none 0 0, .slice none 0 0] 33 (0, 0)) := (HKc.out.block _ (by omega) (by omega)).trans HX2.out
        have HXc := Lib.hid hxc
        have hbc : Below w.heap.size w wc := HB2.out.trans (HKc.out.below (B := w.heap.size) (by omega) (fun k hk e => by omega))
        have HBc := Lib.hid hbc
        have hsc : Ss wc (.slice (some ⟨b, o, none⟩) (spl 63 s).length cap) (spl 63 s) := HS2.out.kp HU.out HKc.out
        have HPc := Lib.hid hsc
        have ltc : U < wc.heap.size := blk_lt HUc.out
        clear hxc hbc hsc HS2 HU hca hbe HX2 HB2
        go_upto_if 64 with fail
        go_cut [11, 12, 13, 14, 15, 16] from 64 (fun x1 x2 x3 x4 x5 x6 wd => rqB' (hvs1 s) = true ∧ ∃ A' n' c', wd.heap[U]? = some (.cells #[.slice A9 n9 c9, .slice A' n' c'] 33 (0, 0)) ∧ Ss wd (.slice A9 n9 c9) (rpL' (hv0 s)) ∧ Ps wd (.slice A' n' c') (rqL' (hvs1 s)) ∧ Kp (fun k => k = U) wc wd)
        case first =>
          by_cases hq : (spl 63 s).length = 2
          · obtain ⟨y, hy⟩ : ∃ y, y = (spl 63 s).getD 1 default := ⟨_, rfl⟩
            obtain ⟨g1, g2⟩ := hvs1_two s y (by rw [hy]; exact hvs1_get s hq)
            have G1 := Lib.hid g1
            have G2 := Lib.hid g2
            have d1 : (((spl 63 s).length : Int) == 2) = true := by simp; omega
            have d2 : (1 : Int) < ((spl 63 s).length : Int) := by omega
            have hyz : y.size ≤ 10000 := by have := spl_size 63 s y (by rw [hy]; exact getD_mem _ _ (by omega)); omega
            have hyc : wc.cell? ⟨b, o + 1, none⟩ = some (.string y) := by
              obtain ⟨A', cap', e', _, _, hcc⟩ := HPc.out
              obtain ⟨b3, o3, hA', hcell⟩ := hcc 1 (by omega)
              simp only [Value.slice.injEq] at e'
              obtain ⟨e', _, _⟩ := e'
              rw [← e'] at hA'
              cases hA'
              rw [hy]; exact hcell
            clear g1 g2 hq hy
            (try rw [d1])
            go_wp2_with fail
            refine (split33s _ _ _ hyz).mono ?_
            rintro e w3 ⟨v3, rfl, h3⟩
            have l3 := spl_len 38 y
            have hmz := spl_size 38 y
            have HMZ := Lib.hid hmz
            have H3s := Lib.hid h3.ss
            obtain ⟨A3, cap3, rfl, _, _, _⟩ := h3.ss
            have HB3 := Lib.hid h3.2.1
            have HU3 := Lib.hid (blk_call HUc.out h3.2.1)
            have HX3 := Lib.hid (blk_call HXc.out h3.2.1)
            have HS3 := Lib.hid (HSc.out.call h3.2.1)
            have HB3w := Lib.hid (HBc.out.trans (h3.2.1.mono HBc.out.size))
            clear h3 hmz
            have lt3 : U < w3.heap.size := blk_lt HU3.out
            generalize spl 38 y = L at *
            go_wp2_with fail
            go_loopw [70] (fun i wr => ∃ (k : Nat), k ≤ L.length ∧ i = .int .i64 k ∧ (L.take k).all (rxB 61 2) = true ∧ MemP U w3.heap.size w3 (.slice A9 n9 c9) ((L.take k).map prV) wr) (fun i _ => L.length - (intOf i).toNat)
            case atStart => exact ⟨0, Nat.zero_le _, rfl, by simp, none, 0, 0, HU3.out, World.ownsRow_nil _ _ _ _, Kp.refl _ _, Nat.le_refl _⟩
            case round =>
              obtain ⟨k, hk, rfl, hall, hmem⟩ := hrel
              have HM := Lib.hid hmem
              have HA := Lib.hid hall
              clear hmem hall
              by_cases hlt : k < L.length
              · obtain ⟨Am, nm, cm, m1, m2, m3, m4⟩ := HM.out
                obtain ⟨A', cap', e', _, _, hcc⟩ := H3s.out.kp HU3.out m3
                obtain ⟨b3, o3, hA', hcell⟩ := hcc k hlt
                simp only [Value.slice.injEq] at e'
                obtain ⟨rfl, _, rfl⟩ := e'
                subst hA'
                have c0 : (k : Int) < (L.length : Int) := by omega
                have HN := Lib.hid (take_next prV L k hlt)
                have HL := Lib.hid (all_next (rxB 61 2) L k hlt)
                have HQ := Lib.hid (all_not (rxB 61 2) L k hlt)
                have hsz1 := HMZ.out _ (getD_mem L k hlt)
                clear hcc
                have M1 := Lib.hid m1
                have M2 := Lib.hid m2
                have M3 := Lib.hid m3
                clear m1 m2 m3
                have HX4 := Lib.hid ((M3.out.block _ (by omega) (by omega)).trans HX3.out)
                have HB4 := Lib.hid (HB3w.out.trans (M3.out.below (B := w.heap.size) (by omega) (fun k hk e => by omega)))
                have eb : Hid (((L.take k).map prV).length ≤ 1000000000) := by show _ ≤ _; simp; omega
                generalize L.getD k default = x at *
                have hxz : x.size ≤ 10000 := by omega
                have l7 := spl_size 61 x
                have HL7 := Lib.hid l7
                clear l7
                rcases two_cases x with ⟨t1, t2⟩ | ⟨a, t1, t2, t3⟩ | ⟨a, b2, t1, t2, t3⟩
                · have e7 : decide ((2 : Int) < ((spl 61 x).length : Int)) = true := decide_eq_true (by omega)
                  have HF := Lib.hid (HNq.out (by rw [G1.out]; exact HQ.out t2))
                  clear t1 t2
                  go_wp2_with (go_at_call 47; refine (split33s _ _ _ hxz).mono ?_; rintro e w7 ⟨v7, rfl, h7⟩; obtain ⟨A7, cap7, rfl, _, _, _⟩ := h7.ss; have H7 := Lib.hid h7.2.1; clear h7; obtain ⟨k0, k1, k2, k3⟩ := blk2 (blk_call HX4.out H7.out))
                  exact par_end rfl rfl ⟨_, _, blk_call HX4.out H7.out⟩ HF.out (HB4.out.trans (H7.out.mono HB4.out.size)) (Nat.le_refl _)
                · have haz : a.size ≤ 10000 := by have := HL7.out a (by rw [t1]; simp); omega
                  by_cases ha : decB a = true
                  · have T2 := Lib.hid (show rxB 61 2 x = true by rw [t2, ha])
                    have T3 := Lib.hid (t3 ha)
                    go_wp2_with fail
                    refine (split33s _ _ _ hxz).mono ?_
                    rintro e w7 ⟨v7, rfl, h7⟩
                    have H7 := Lib.hid h7.2.1
                    rw [t1] at h7
                    obtain ⟨A7, cap7, rfl, _, _, hc7⟩ := h7.ss
                    obtain ⟨b7, o7, rfl, hcz⟩ := hc7 0 (by simp)
                    simp at hcz
                    clear h7 t1 t2 t3 hc7
                    go_wp2_with (first | (go_at_call 48; refine (decodeR _ _ (Nat.le_trans haz (by decide))).mono ?_; rintro e w8 ⟨rfl, h8⟩; rw [ha]; have H8 := Lib.hid (H7.out.trans (h8.mono H7.out.size)); have Z8 := Lib.hid h8; clear h8; obtain ⟨k0, k1, k2, k3⟩ := blk2 (blk_call M1.out H8.out)) | (at_builtin; refine wpList_appP _ rfl (.tmp 105) (.tmp 109) rfl w3.heap.size (w8.alloc (.cells #[.string (decS a), .string ⟨#[]⟩] 61 (0, 0))) _ ((L.take k).map prV) rfl ⟨(owns_call M2.out H8.out).alloc _, Below.refl _ _, ?b0⟩ ?b1 w8.heap.size 1 1 [(decS a, ⟨#[]⟩)] rfl rfl (by omega) (heap_alloc_new _ _) ?_))
                    case b0 => have := H8.out.size; simp; omega
                    case b1 => exact eb.out
                    intro va wa h8 hg _
                    obtain ⟨A8, n8, c8, hv8⟩ := h8.ps.shape
                    subst hv8
                    obtain ⟨hU8, hm8⟩ := memP_step (xs := (L.take k).map prV) (ys := [(decS a, ⟨#[]⟩)]) (blk_call M1.out H8.out) lt3 (owns_call M2.out H8.out) (M3.out.call H8.out) _ (by simpa using h8) hg (Nat.le_refl _)
                    obtain ⟨r0, r1, r2, r3⟩ := blk2 hU8
                    have HM8 := Lib.hid hm8
                    clear hm8 h8 hg hU8
                    go_wp2_with fail
                    go_roundw
                    case rel => exact ⟨k + 1, by omega, by go_num, by rw [HL.out, HA.out, T2.out]; rfl, by rw [HN.out, T3.out]; exact HM8.out⟩
                    case measure => simp [intOf]; omega
                  · have ha : decB a = false := by simpa using ha
                    have HF := Lib.hid (HNq.out (by rw [G1.out]; exact HQ.out (by rw [t2, ha])))
                    go_wp2_with fail
                    refine (split33s _ _ _ hxz).mono ?_
                    rintro e w7 ⟨v7, rfl, h7⟩
                    have H7 := Lib.hid h7.2.1
                    rw [t1] at h7
                    obtain ⟨A7, cap7, rfl, _, _, hc7⟩ := h7.ss
                    obtain ⟨b7, o7, rfl, hcz⟩ := hc7 0 (by simp)
                    simp at hcz
                    clear hc7
                    clear h7 t1 t2 t3
                    go_wp2_with (go_at_call 48; refine (decodeR _ _ (Nat.le_trans haz (by decide))).mono ?_; rintro e w8 ⟨rfl, h8⟩; rw [ha]; have H8 := Lib.hid (H7.out.trans (h8.mono H7.out.size)); clear h8; obtain ⟨k0, k1, k2, k3⟩ := blk2 (blk_call HX4.out H8.out))
                    exact par_end rfl rfl ⟨_, _, blk_call HX4.out H8.out⟩ HF.out (HB4.out.trans (H8.out.mono HB4.out.size)) (Nat.le_refl _)
                · have haz : a.size ≤ 10000 := by have := HL7.out a (by rw [t1]; simp); omega
                  have hbz : b2.size ≤ 10000 := by have := HL7.out b2 (by rw [t1]; simp); omega
                  cases ha : decB a <;> cases hb : decB b2
                  · have HF := Lib.hid (HNq.out (by rw [G1.out]; exact HQ.out (by rw [t2, ha, hb]; rfl)))
                    go_wp2_with fail
                    refine (split33s _ _ _ hxz).mono ?_
                    rintro e w7 ⟨v7, rfl, h7⟩
                    have H7 := Lib.hid h7.2.1
                    rw [t1] at h7
                    obtain ⟨A7, cap7, rfl, _, _, hc7⟩ := h7.ss
                    obtain ⟨b7, o7, rfl, hcz⟩ := hc7 0 (by simp)
                    simp at hcz
                    obtain ⟨b7', o7', hbo, hcy⟩ := hc7 1 (by simp)
                    cases hbo
                    simp at hcy
                    clear hc7
                    clear h7 t1 t2 t3
                    go_wp2_with (first | (go_at_call_of 48 a; refine (decodeR _ _ (Nat.le_trans haz (by decide))).mono ?_; rintro e w8 ⟨rfl, h8⟩; rw [ha]; have H8 := Lib.hid (H7.out.trans (h8.mono H7.out.size)); have hcy := (h8.cell (World.block_lt_of_cell? _ _ hcy)).trans hcy; clear h8) | (go_at_call_of 48 b2; refine (decodeR _ _ (Nat.le_trans hbz (by decide))).mono ?_; rintro e w9 ⟨rfl, h9⟩; rw [hb]; have H9 := Lib.hid (H8.out.trans (h9.mono H8.out.size)); clear h9; obtain ⟨k0, k1, k2, k3⟩ := blk2 (blk_call HX4.out H9.out)))
                    exact par_end rfl rfl ⟨_, _, blk_call HX4.out H9.out⟩ HF.out (HB4.out.trans (H9.out.mono HB4.out.size)) (Nat.le_refl _)
                  · have HF := Lib.hid (HNq.out (by rw [G1.out]; exact HQ.out (by rw [t2, ha, hb]; rfl)))
                    go_wp2_with fail
                    refine (split33s _ _ _ hxz).mono ?_
                    rintro e w7 ⟨v7, rfl, h7⟩
                    have H7 := Lib.hid h7.2.1
                    rw [t1] at h7
                    obtain ⟨A7, cap7, rfl, _, _, hc7⟩ := h7.ss
                    obtain ⟨b7, o7, rfl, hcz⟩ := hc7 0 (by simp)
                    simp at hcz
                    obtain ⟨b7', o7', hbo, hcy⟩ := hc7 1 (by simp)
                    cases hbo
                    simp at hcy
                    clear hc7
                    clear h7 t1 t2 t3
                    go_wp2_with (first | (go_at_call_of 48 a; refine (decodeR _ _ (Nat.le_trans haz (by decide))).mono ?_; rintro e w8 ⟨rfl, h8⟩; rw [ha]; have H8 := Lib.hid (H7.out.trans (h8.mono H7.out.size)); have hcy := (h8.cell (World.block_lt_of_cell? _ _ hcy)).trans hcy; clear h8) | (go_at_call_of 48 b2; refine (decodeR _ _ (Nat.le_trans hbz (by decide))).mono ?_; rintro e w9 ⟨rfl, h9⟩; rw [hb]; have H9 := Lib.hid (H8.out.trans (h9.mono H8.out.size)); clear h9; obtain ⟨k0, k1, k2, k3⟩ := blk2 (blk_call HX4.out H9.out)))
                    exact par_end rfl rfl ⟨_, _, blk_call HX4.out H9.out⟩ HF.out (HB4.out.trans (H9.out.mono HB4.out.size)) (Nat.le_refl _)
                  · have HF := Lib.hid (HNq.out (by rw [G1.out]; exact HQ.out (by rw [t2, ha, hb]; rfl)))
                    go_wp2_with fail
                    refine (split33s _ _ _ hxz).mono ?_
                    rintro e w7 ⟨v7, rfl, h7⟩
                    have H7 := Lib.hid h7.2.1
                    rw [t1] at h7
                    obtain ⟨A7, cap7, rfl, _, _, hc7⟩ := h7.ss
                    obtain ⟨b7, o7, rfl, hcz⟩ := hc7 0 (by simp)
                    simp at hcz
                    obtain ⟨b7', o7', hbo, hcy⟩ := hc7 1 (by simp)
                    cases hbo
                    simp at hcy
                    clear hc7
                    clear h7 t1 t2 t3
                    go_wp2_with (first | (go_at_call_of 48 a; refine (decodeR _ _ (Nat.le_trans haz (by decide))).mono ?_; rintro e w8 ⟨rfl, h8⟩; rw [ha]; have H8 := Lib.hid (H7.out.trans (h8.mono H7.out.size)); have hcy := (h8.cell (World.block_lt_of_cell? _ _ hcy)).trans hcy; clear h8) | (go_at_call_of 48 b2; refine (decodeR _ _ (Nat.le_trans hbz (by decide))).mono ?_; rintro e w9 ⟨rfl, h9⟩; rw [hb]; have H9 := Lib.hid (H8.out.trans (h9.mono H8.out.size)); clear h9; obtain ⟨k0, k1, k2, k3⟩ := blk2 (blk_call HX4.out H9.out)))
                    exact par_end rfl rfl ⟨_, _, blk_call HX4.out H9.out⟩ HF.out (HB4.out.trans (H9.out.mono HB4.out.size)) (Nat.le_refl _)
                  · have T2 := Lib.hid (show rxB 61 2 x = true by rw [t2, ha, hb]; rfl)
                    have T3 := Lib.hid (t3 ha hb)
                    go_wp2_with fail
                    refine (split33s _ _ _ hxz).mono ?_
                    rintro e w7 ⟨v7, rfl, h7⟩
                    have H7 := Lib.hid h7.2.1
                    rw [t1] at h7
                    obtain ⟨A7, cap7, rfl, _, _, hc7⟩ := h7.ss
                    obtain ⟨b7, o7, rfl, hcz⟩ := hc7 0 (by simp)
                    simp at hcz
                    obtain ⟨b7', o7', hbo, hcy⟩ := hc7 1 (by simp)
                    cases hbo
                    simp at hcy
                    clear hc7
                    clear h7 t1 t2 t3
                    go_wp2_with (first | (go_at_call_of 48 a; refine (decodeR _ _ (Nat.le_trans haz (by decide))).mono ?_; rintro e w8 ⟨rfl, h8⟩; rw [ha]; have H8 := Lib.hid (H7.out.trans (h8.mono H7.out.size)); have hcy := (h8.cell (World.block_lt_of_cell? _ _ hcy)).trans hcy; clear h8) | (go_at_call_of 48 b2; refine (decodeR _ _ (Nat.le_trans hbz (by decide))).mono ?_; rintro e w9 ⟨rfl, h9⟩; rw [hb]; have H9 := Lib.hid (H8.out.trans (h9.mono H8.out.size)); clear h9; obtain ⟨k0, k1, k2, k3⟩ := blk2 (blk_call M1.out H9.out)) | (at_builtin; refine wpList_appP _ rfl (.tmp 105) (.tmp 109) rfl w3.heap.size (w9.alloc (.cells #[.string (decS a), .string (decS b2)] 61 (0, 0))) _ ((L.take k).map prV) rfl ⟨(owns_call M2.out H9.out).alloc _, Below.refl _ _, ?b0⟩ ?b1 w9.heap.size 1 1 [(decS a, (decS b2))] rfl rfl (by omega) (heap_alloc_new _ _) ?_))
                    case b0 => have := H9.out.size; simp; omega
                    case b1 => exact eb.out
                    intro va wa h8 hg _
                    obtain ⟨A8, n8, c8, hv8⟩ := h8.ps.shape
                    subst hv8
                    obtain ⟨hU8, hm8⟩ := memP_step (xs := (L.take k).map prV) (ys := [(decS a, (decS b2))]) (blk_call M1.out H9.out) lt3 (owns_call M2.out H9.out) (M3.out.call H9.out) _ (by simpa using h8) hg (Nat.le_refl _)
                    obtain ⟨r0, r1, r2, r3⟩ := blk2 hU8
                    have HM8 := Lib.hid hm8
                    clear hm8 h8 hg hU8
                    go_wp2_with fail
                    go_roundw
                    case rel => exact ⟨k + 1, by omega, by go_num, by rw [HL.out, HA.out, T2.out]; rfl, by rw [HN.out, T3.out]; exact HM8.out⟩
                    case measure => simp [intOf]; omega
              · obtain rfl : k = L.length := by omega
                rw [List.take_length] at HA HM
                obtain ⟨A9', n9', c9', m1, m2, m3⟩ := HM.out.ps
                have M1 := Lib.hid m1
                have M2 := Lib.hid m2
                have M3 := Lib.hid m3
                clear m1 m2 m3
                go_wp2_with fail
                go_meet
                exact ⟨by rw [G1.out]; exact HA.out, A9', n9', c9', M1.out, HS3.out.kp HU3.out M3.out, by rw [G2.out]; exact M2.out, (Kp.of_below HB3.out _).trans M3.out (fun _ _ t => t)⟩
          · obtain ⟨g1, g2⟩ := hvs1_one s (by omega)
            have G1 := Lib.hid g1
            have G2 := Lib.hid g2
            have d1 : (((spl 63 s).length : Int) == 2) = false := by simp; omega
            clear g1 g2 hq
            (try rw [d1])
            go_wp2_with fail
            go_meet
            exact ⟨G1.out, none, 0, 0, HUc.out, HSc.out, by rw [G2.out]; exact ps_nil _, Kp.refl _ _⟩
        case rest =>
          obtain ⟨hrq, A', n', c', u1, u2, u3, u4⟩ := hcut
          have R2 := Lib.hid hrq
          have HUd := Lib.hid u1
          have HSd := Lib.hid u2
          have HPd := Lib.hid u3
          have HXd := Lib.hid ((u4.block _ (by omega) (by omega)).trans HXc.out)
          have HBd := Lib.hid (HBc.out.trans (u4.below (B := w.heap.size) (by omega) (fun k hk e => by omega)))
          obtain ⟨k0, k1, _, _⟩ := blk2 u1
          clear hrq u1 u2 u3 u4
          by_cases hr : rightB (rpL' (hv0 s)) (rqL' (hvs1 s)) = true
          · have hpb : parB s = true := by rw [HE1.out, R1.out, R2.out, hr]; rfl
            obtain ⟨p1, p2⟩ := HE2.out hpb
            have P1 := Lib.hid p1
            have P2 := Lib.hid p2
            have P0 := Lib.hid hpb
            clear p1 p2 hpb
            go_wp2_with (go_at_call 49; refine (right35 _ _ _ _ _ HSd.out HPd.out).mono ?_; rintro e w8 ⟨rfl, h8⟩; rw [hr]; have H8 := Lib.hid h8; obtain ⟨r0, r1, r2, r3⟩ := blk2 (blk_call HXd.out h8); obtain ⟨t0, t1, t2, t3⟩ := blk2 (blk_call HUd.out h8); clear h8)
            rw [P0.out, P1.out, P2.out]
            refine bodyPost_ret (v := .tuple #[.agg #[.slice A9 n9 c9, .slice A' n' c'], .int .i64 0]) ?_ rfl ⟨_, _, rfl, ?_, ?_, ?_⟩
            · rw [results_cell_tmp rfl]
              go_simp
            · exact (HSd.out.call H8.out).set2 (blk_call HXd.out H8.out) _ _
            · exact (HPd.out.call H8.out).set2 (blk_call HXd.out H8.out) _ _
            · exact ((HBd.out.trans (H8.out.mono HBd.out.size)).setCell (Nat.le_refl _) _).setCell (Nat.le_refl _) _
          · have hr : rightB (rpL' (hv0 s)) (rqL' (hvs1 s)) = false := by simpa using hr
            have HF := Lib.hid (HNr.out hr)
            go_wp2_with (go_at_call 49; refine (right35 _ _ _ _ _ HSd.out HPd.out).mono ?_; rintro e w8 ⟨rfl, h8⟩; rw [hr]; have H8 := Lib.hid h8; obtain ⟨r0, r1, r2, r3⟩ := blk2 (blk_call HXd.out h8); clear h8)
            exact par_end rfl rfl ⟨_, _, blk_call HXd.out H8.out⟩ HF.out (HBd.out.trans (H8.out.mono HBd.out.size)) (Nat.le_refl _)
    · have HF : Hid (parB s = false ∧ parP s = [] ∧ parQ s = []) := by
        have : parB s = false := by rw [parB, decide_eq_false h0]; rfl
        exact ⟨this, by rw [parP, this]; rfl, by rw [parQ, this]; rfl⟩
      by_cases hz : s.size = 0
      · have c3 : ((s.size : Int) == 0) = true := by rw [hz]; rfl
        go_enter Tryz.func29, Tryz.ntmps29
        go_wp2_with fail
        generalize w.alloc (.cells #[.slice none 0 0, .slice none 0 0] 33) = w5 at *
        refine (split33s _ _ _ hs).mono ?_
        rintro e w1 ⟨v1, rfl, h1⟩
        obtain ⟨A, cap, rfl, hcap, _, _⟩ := h1.ss
        obtain ⟨r0, r1, r2, r3⟩ := blk2 (blk_call HK.out h1.2.1)
        have H1 := Lib.hid h1.2.1
        clear h1
        go_wp2_with fail
        exact par_end rfl rfl ⟨_, _, blk_call HK.out H1.out⟩ HF.out (HB.out.trans (H1.out.mono HB.out.size)) (Nat.le_refl _)
      · have c2 : ¬ bt s 0 = 47 := fun h => h0 ⟨hz, h⟩
        have c3 : ¬ (s.size : Int) = 0 := by omega
        have c4 : ((s.size : Int) == 0) = false := by simpa using c3
        have c5 : (0 : Int) < (s.size : Int) := by omega
        have c7 : (bt s 0 == 47) = false := by simpa using c2
        go_enter Tryz.func29, Tryz.ntmps29
        go_wp2_with fail
        generalize w.alloc (.cells #[.slice none 0 0, .slice none 0 0] 33) = w5 at *
        refine (split33s _ _ _ hs).mono ?_
        rintro e w1 ⟨v1, rfl, h1⟩
        obtain ⟨A, cap, rfl, hcap, _, _⟩ := h1.ss
        obtain ⟨r0, r1, r2, r3⟩ := blk2 (blk_call HK.out h1.2.1)
        have H1 := Lib.hid h1.2.1
        clear h1
        go_wp2_with fail
        exact par_end rfl rfl ⟨_, _, blk_call HK.out H1.out⟩ HF.out (HB.out.trans (H1.out.mono HB.out.size)) (Nat.le_refl _)
  · have hB : splB 63 2 s = false := by simpa using hB
    have HF : Hid (parB s = false ∧ parP s = [] ∧ parQ s = []) := by
      have : parB s = false := by rw [parB, hB]; simp
      exact ⟨this, by rw [parP, this]; rfl, by rw [parQ, this]; rfl⟩
    have c6 : decide ((2 : Int) < ((spl 63 s).length : Int)) = true := by rw [splB] at hB; have := of_decide_eq_false hB; exact decide_eq_true (by omega)
    go_enter Tryz.func29, Tryz.ntmps29
    go_wp2_with fail
    generalize w.alloc (.cells #[.slice none 0 0, .slice none 0 0] 33) = w5 at *
    refine (split33s _ _ _ hs).mono ?_
    rintro e w1 ⟨v1, rfl, h1⟩
    obtain ⟨A, cap, rfl, hcap, _, _⟩ := h1.ss
    obtain ⟨r0, r1, r2, r3⟩ := blk2 (blk_call HK.out h1.2.1)
    have H1 := Lib.hid h1.2.1
    clear h1
    go_wp2_with fail
    exact par_end rfl rfl ⟨_, _, blk_call HK.out H1.out⟩ HF.out (HB.out.trans (H1.out.mono HB.out.size)) (Nat.le_refl _)
end Go.Proofs.YthigandmemifoaaGreatDoor
