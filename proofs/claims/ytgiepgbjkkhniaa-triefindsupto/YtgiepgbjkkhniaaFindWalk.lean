/-
  TrieFinds, walked.
-/
import Derived.Test.YtgiepgbjkkhniaaAllWalk
import Derived.Test.YtgiepgbjkkhniaaSomeY
import Derived.Test.YtgiepgbjkkhniaaRefZ
import Derived.Test.YtgiepgbjkkhniaaIns
namespace Go.Proofs.Ytgiepgbjkkhniaa
open Go.RowKit Go.PlainAid
set_option maxRecDepth 100000

set_option maxHeartbeats 12800000 in
theorem finds_any (A : Option Addr) (n c : Nat) (v2 : Value) (raw : List (List Sg)) (A1 A2 A3 : Option Addr) (n1 c1 n2 c2 n3 c3 : Nat) (f1 f2 f3 : Nat → Int) (v4 : Value) (P0 : List ByteArray) (own_ : Bool) (w : World)
    (hk : Ks w A n) (hr : Gss w v2 raw) (hrl : raw.length ≤ 9223372036854775807) (hrs : ∀ l ∈ raw, l.length ≤ 9223372036854775807) (hrz : ∀ l ∈ raw, ∀ g ∈ l, g.2.size ≤ 9223372036854775807)
    (h1 : Ia w A1 n1 f1) (h2 : Ia w A2 n2 f2) (h3 : Ia w A3 n3 f3) (hp : Ss w v4 P0) (hpl : P0.length ≤ 9223372036854775807) (hps : ∀ s ∈ P0, s.size ≤ 100000000) :
    Calls Try.prog 4 #[.slice A n c, v2, .agg #[.slice A1 n1 c1, .slice A2 n2 c2, .slice A3 n3 c3], v4, .bool own_] w fun e w' => e = .returned (.bool true) ∧ Below w.heap.size w w' := by
  have H1 := Lib.hid h1
  have H2 := Lib.hid h2
  have H3 := Lib.hid h3
  have HPS := Lib.hid hps
  have F45 := field45
  have BX := Lib.hid (blk_new w (.cells #[.slice A1 n1 c1, .slice A2 n2 c2, .slice A3 n3 c3] 42 (0, 0)))
  have B1 := Lib.hid ((Below.refl w.heap.size w).alloc (Nat.le_refl _) (.cells #[.slice A1 n1 c1, .slice A2 n2 c2, .slice A3 n3 c3] 42 (0, 0)))
  have HP := Lib.hid (hp.call B1.out)
  obtain ⟨Ar, nr, cr, rfl⟩ := hr.shape
  have XK := Lib.hid (some10Z A n c _ raw _ (hk.call B1.out) (hr.call B1.out) hrl hrs hrz)
  obtain ⟨A4, cap4, hv4, hc4, -, -⟩ := hp
  subst hv4
  obtain ⟨n4, hn4⟩ : ∃ n4, n4 = P0.length := ⟨_, rfl⟩
  have HN4 := Lib.hid hn4
  rw [← hn4] at HP hc4 hpl ⊢
  obtain ⟨mm, hmm⟩ : ∃ mm : Nat, mm = min n4 9 := ⟨_, rfl⟩
  have hmI : min (n4 : Int) 9 = (mm : Int) := by omega
  have m9 : mm ≤ 9 := by omega
  have mn : mm ≤ n4 := by omega
  have mi : (mm : Int) ≤ (cap4 : Int) := by omega
  have mc : mm ≤ cap4 := by omega
  clear hk hr hrl hrs hrz h1 h2 h3 hps hn4 hmm
  go_enter Try.func4, Try.ntmps4
  go_upto_if 34 with (first | (go_at_call 12; refine XK.out.mono ?_; rintro e w2 ⟨u, ls, rfl, ho, h9, hl9⟩; have GS := Lib.hid ho.gss; have NZ := Lib.hid h9; have LL := Lib.hid hl9; have B2 := Lib.hid ho.below; obtain ⟨Au, nu, cu, rfl⟩ := ho.gss.shape; clear ho h9 hl9))
  have l12 : ls.length ≤ 12 := by have := LL.out; omega
  have W12 := Lib.hid (B1.out.trans (B2.out.mono B1.out.size))
  have BX2 := Lib.hid (blk_call BX.out B2.out)
  have HP2 := Lib.hid (HP.out.call B2.out)
  have PT : Hid (Ss w2 (.slice A4 mm cap4) (P0.take mm)) := HP2.out.take mm (by have := HN4.out; omega)
  have XU := Lib.hid (url13 A1 A2 A3 n1 c1 n2 c2 n3 c3 f1 f2 f3 w2 (H1.out.call W12.out) (H2.out.call W12.out) (H3.out.call W12.out))
  have LP0 : Hid (LP w ls (P0.take mm) (.slice Au nu cu) (.slice A4 mm cap4) w2) := ⟨GS.out, PT.out, l12, NZ.out.few, fun s hs => HPS.out s (List.mem_of_mem_take hs), by rw [List.length_take]; omega, W12.out⟩
  clear H1 H2 H3 XK BX B1 HP HP2 PT
  go_cut [12] from 34 (fun v12 wz => ∃ path, LP w ls path (.slice Au nu cu) v12 wz)
  case first =>
    cases own_ with
    | false =>
      go_wp2_with fail
      go_meet
      exact ⟨_, LP0.out⟩
    | true =>
      have y0 : w2.cell? ⟨w.heap.size, 0, none⟩ = some (.slice A1 n1 c1) := by rw [blk_cell BX2.out]; rfl
      have y1 : w2.cell? ⟨w.heap.size, 1, none⟩ = some (.slice A2 n2 c2) := by rw [blk_cell BX2.out]; rfl
      have y2 : w2.cell? ⟨w.heap.size, 2, none⟩ = some (.slice A3 n3 c3) := by rw [blk_cell BX2.out]; rfl
      go_wp2_with (first | (go_at_call 13; refine XU.out.mono ?_; rintro e w3 ⟨z1, z2, p, q, rfl, hp, hq, hok, hb3⟩; have PS := Lib.hid hp; have OK := Lib.hid hok; have B3 := Lib.hid hb3; obtain ⟨Ap, np, cp, rfl⟩ := hp.shape; obtain ⟨Aq, mq, cq, hq9⟩ : ∃ A n c, z2 = .slice A n c := (by obtain ⟨A, c, e, _⟩ := hq; exact ⟨_, _, _, e⟩); subst hq9; clear hp hq hok hb3))
      go_meet
      exact ⟨p, LP0.out.1.call B3.out, PS.out, l12, NZ.out.few, fun s hs => words_size s (OK.out.2.2.1 s hs), by have := OK.out.1; omega, LP0.out.2.2.2.2.2.2.trans (B3.out.mono LP0.out.2.2.2.2.2.2.size)⟩
  obtain ⟨path, hlp⟩ := hcut
  have L1 := Lib.hid hlp
  obtain ⟨A6, n6, c6, hv6⟩ := hlp.2.1.shape
  subst hv6
  obtain ⟨A5', c5', hv5⟩ := box_len hlp.1
  simp only [Value.slice.injEq] at hv5
  obtain ⟨rfl, rfl, rfl⟩ := hv5
  have XN := Lib.hid (trieNew _ ls wc hlp.1 l12)
  have HZ : Hid (∀ l ∈ ls, ∀ g ∈ l, g.2.size ≤ 9223372036854775807) := fun l hl => (NZ.out l hl).2
  have hpl2 := hlp.2.2.2.2.2.1
  clear hlp LP0 XU BX2 W12 HPS GS B2 LL F45
  go_wp2_with (first
    | (go_at_call 6; refine XN.out.mono ?_; rintro e w3 ⟨T, rfl, ht, hb⟩; have T3 := Lib.hid ht; have L3 := Lib.hid (L1.out.call hb); obtain ⟨al, hal, hal2⟩ := ht.al path; have AL := Lib.hid hal; clear ht hb hal XN)
    | (go_at_call 7; refine (trieFind T3.out _ path L3.out.2.1 L3.out.2.2.2.2.1 hpl2 AL.out).mono ?_; rintro e w4 ⟨v4, rfl, hps4, hb4⟩; have T4 := Lib.hid (T3.out.call hb4); have L4 := Lib.hid (L3.out.call hb4); have P4 := Lib.hid hps4; obtain ⟨A8, n8, c8, hv8⟩ : ∃ A n c, v4 = .slice A n c := (by obtain ⟨A, c, e, _⟩ := hps4; exact ⟨_, _, _, e⟩); subst hv8; clear hps4 hb4 L1 L3 T3)
    | (go_at_call 14; refine (refFind14 _ _ ls path w4 L4.out.1 L4.out.2.1 l12 L4.out.2.2.2.1 HZ.out L4.out.2.2.2.2.1 hpl2 AL.out).mono ?_; rintro e w5 ⟨v5, rfl, hps5, hb5⟩; have T5 := Lib.hid (T4.out.call hb5); have L5 := Lib.hid (L4.out.call hb5); have P5 := Lib.hid (P4.out.call hb5); have R5 := Lib.hid hps5; obtain ⟨A7, n7, c7, hv7⟩ : ∃ A n c, v5 = .slice A n c := (by obtain ⟨A, c, e, _⟩ := hps5; exact ⟨_, _, _, e⟩); subst hv7; clear hps5 hb5 L4 T4 P4))
  go_loopw [20, 21, 58] (fun nv wv i wr => ∃ (k : Nat) (ak : List Nat), k ≤ ls.length ∧ i = .int .i64 k ∧ nv = .int .i64 ((idxR ls k).length : Nat) ∧ OwnI w5.heap.size w5 wv ak wr ∧ AllK ls path k ak) (fun _ _ i _ => ls.length - (intOf i).toNat)
  case atStart => exact ⟨0, [], Nat.zero_le _, rfl, rfl, nilI _ _ _ (Below.refl _ _) (Nat.le_refl _), List.Pairwise.nil, fun i => by simp⟩
  case round =>
    obtain ⟨k, ak, hk, rfl, rfl, hown, hak⟩ := hrel
    have HO := Lib.hid hown
    have HAK := Lib.hid hak
    obtain ⟨A9, n9, c9, rfl⟩ := hown.shape
    clear hown hak
    have nl := idx_len ls k
    by_cases hlt : k < ls.length
    · have d0 : (k : Int) < (ls.length : Int) := by omega
      have HX := Lib.hid (idx_next ls k)
      obtain ⟨A', c', e', _, _, hc⟩ := L5.out.1
      simp only [Value.slice.injEq] at e'
      obtain ⟨rfl, -, rfl⟩ := e'
      have HC := Lib.hid hc
      obtain ⟨x, o, u, rfl, hx, hu⟩ := hc k hlt
      have hxl : x < w5.heap.size := World.block_lt_of_cell? _ _ hx
      obtain ⟨Ag, ng, cg, rfl⟩ := hu.shape
      have HU := Lib.hid hu
      have y0 : wr.cell? ⟨x, o + k, none⟩ = some (.slice Ag ng cg) := by rw [HO.out.2.1.cell hxl]; exact hx
      have HXk := Lib.hid hx
      have XR := Lib.hid (rightPat17 _ _ wr (hu.call HO.out.2.1) (HZ.out _ (getD_mem ls k hlt)))
      have XM := Lib.hid (fun W (hW : Below wr.heap.size wr W) => match14 _ _ _ path W ((hu.call HO.out.2.1).call hW) ((L5.out.call HO.out.2.1).call hW).2.1 L5.out.2.2.2.2.1 hpl2 (HZ.out _ (getD_mem ls k hlt)))
      clear hc hu
      obtain ⟨nk, hnk⟩ : ∃ nk, nk = (idxR ls k).length := ⟨_, rfl⟩
      rw [← hnk] at nl ⊢
      have HNK := Lib.hid hnk
      clear hnk
      rcases hrg : rgB (ls.getD k default) with _ | _
      · have hm := (mt_wrong (path := path) hrg).1
        have HN := Lib.hid (HAK.out.skip hm)
        have HE : Hid ((idxR ls (k + 1)).length = nk) := by
          have h1 := HX.out
          rw [hrg] at h1
          show _ = _
          rw [h1, HNK.out]
          simp
        rw [hrg] at XR
        rw [hm] at XM
        clear hrg hm
        go_wp2_with (first | (go_at_call 15; refine XR.out.mono ?_; rintro e w6 ⟨rfl, hb6⟩; have B6 := Lib.hid hb6; have y1 : w6.cell? ⟨x, o + k, none⟩ = some (.slice Ag ng cg) := (by rw [(HO.out.2.1.trans (hb6.mono HO.out.2.2)).cell hxl]; exact hx); clear hb6) | (go_at_call 16; refine (XM.out _ B6.out).mono ?_; rintro e w7 ⟨v7, rfl, hps7, hb7⟩; have B7 := Lib.hid (B6.out.trans (hb7.mono B6.out.size)); obtain ⟨Ax, nx, cx, hvx⟩ : ∃ A n c, v7 = .slice A n c := (by obtain ⟨A, c, e, _⟩ := hps7; exact ⟨_, _, _, e⟩); subst hvx; clear hps7 hb7))
        go_roundw
        case rel => exact ⟨k + 1, ak, by omega, by go_num, by rw [HE.out], HO.out.call B7.out, HN.out⟩
        case measure => simp [intOf]; omega
      · have HE : Hid ((idxR ls (k + 1)).length = nk + 1) := by
          have h1 := HX.out
          rw [hrg] at h1
          show _ = _
          rw [h1, HNK.out]
          simp
        rw [hrg] at XR
        clear hrg
        rcases hm : mtB (ls.getD k default) path with _ | _
        · have HN := Lib.hid (HAK.out.skip hm)
          rw [hm] at XM
          clear hm
          go_wp2_with (first | (go_at_call 15; refine XR.out.mono ?_; rintro e w6 ⟨rfl, hb6⟩; have B6 := Lib.hid hb6; have y1 : w6.cell? ⟨x, o + k, none⟩ = some (.slice Ag ng cg) := (by rw [(HO.out.2.1.trans (hb6.mono HO.out.2.2)).cell hxl]; exact hx); clear hb6) | (go_at_call 16; refine (XM.out _ B6.out).mono ?_; rintro e w7 ⟨v7, rfl, hps7, hb7⟩; have B7 := Lib.hid (B6.out.trans (hb7.mono B6.out.size)); obtain ⟨Ax, nx, cx, hvx⟩ : ∃ A n c, v7 = .slice A n c := (by obtain ⟨A, c, e, _⟩ := hps7; exact ⟨_, _, _, e⟩); subst hvx; clear hps7 hb7))
          go_roundw
          case rel => exact ⟨k + 1, ak, by omega, by go_num, by rw [HE.out]; rfl, HO.out.call B7.out, HN.out⟩
          case measure => simp [intOf]; omega
        · have HMT := Lib.hid hm
          rw [hm] at XM
          clear hm
          have akl : ak.length ≤ 1000 := all_len HAK.out l12 hk
          have q1 : ((ak.length : Int) + 1) - 1 = (ak.length : Int) := by omega
          have q2 : IntKind.i64.wrap (ak.length : Int) = (ak.length : Int) := by rw [IntKind.wrap_i64]; omega
          go_wp2_with (first
            | (go_at_call 15; refine XR.out.mono ?_; rintro e w6 ⟨rfl, hb6⟩; have B6 := Lib.hid hb6; have y1 : w6.cell? ⟨x, o + k, none⟩ = some (.slice Ag ng cg) := (by rw [(HO.out.2.1.trans (hb6.mono HO.out.2.2)).cell hxl]; exact hx); clear hb6)
            | (go_at_call 16; refine (XM.out _ B6.out).mono ?_; rintro e w7 ⟨v7, rfl, hps7, hb7⟩; have B7 := Lib.hid (B6.out.trans (hb7.mono B6.out.size)); obtain ⟨Ax, nx, cx, hvx⟩ : ∃ A n c, v7 = .slice A n c := (by obtain ⟨A, c, e, _⟩ := hps7; exact ⟨_, _, _, e⟩); subst hvx; clear hps7 hb7)
            | (at_builtin; refine wpList_appI (w := w7.alloc (.cells #[.int .i64 (k : Int)] 3 (0, 0))) rfl (.tmp 78) (.tmp 80) rfl rfl ((HO.out.call B7.out).alloc (.cells #[.int .i64 (k : Int)] 3 (0, 0))) akl w7.heap.size k rfl (blk_new w7 _) ?_; intro v8 w8 h8 hg8; have H8 := Lib.hid h8; obtain ⟨g, cap8, hv8, hBg, -, -⟩ := h8.box (by simp); rw [List.length_append, List.length_singleton] at hv8; subst hv8; clear h8 hg8))
          clear y0 y1 XR XM HX
          go_loopw [25] (fun qv wz => ∃ (q : Nat) (cur : List Nat), qv = .int .i64 (q : Nat) ∧ InsM ls ak k q cur ∧ OwnI w5.heap.size w5 (.slice (some ⟨g, 0, none⟩) (ak.length + 1) cap8) cur wz) (fun qv _ => (intOf qv).toNat)
          case atStart => exact ⟨ak.length, ak ++ [k], rfl, insM_start, H8.out⟩
          case round =>
            obtain ⟨q, cur, rfl, hins, hown⟩ := hrel
            have HIN := Lib.hid hins
            have HW := Lib.hid hown
            have hcl := insM_len hins
            have hqa := hins.1
            clear hown H8 HO B6 B7 q1 q2
            rcases q with _ | q
            · have HN := Lib.hid (insM_end HAK.out HMT.out HIN.out (Or.inl rfl))
              clear hins
              rw [show ((0 : Nat) : Int) = 0 from rfl]
              go_wp2_with fail
              refine wp_region_sink (S := (fun _ : World => True)) (n := 1000) (by kernel_rfl) ?_
              change wpSink _ _ _ _ _ 1000 21 _ _ _
              refine sink_take1 (i := 0) (d := some 85) (v := ?_) rfl rfl (by kernel_rfl) (by decide) (by kernel_rfl) (by kernel_rfl) (fun _ _ _ h => h) (Or.inl ⟨by rfl, ?_⟩) trivial ?_
              rotate_left
              · intro wz hSw
                (try dsimp only at hSw)
                go_simp
                (try with_reducible rfl)
              try simp only [Act.put, List.setIfInBounds_toArray, List.set_cons_zero, List.set_cons_succ]
              refine sink_take1 (i := 1) (d := some 86) (v := ?_) rfl rfl (by kernel_rfl) (by decide) (by kernel_rfl) (by kernel_rfl) (fun _ _ _ h => h) (Or.inl ⟨by rfl, ?_⟩) trivial ?_
              rotate_left
              · intro wz hSw
                (try dsimp only at hSw)
                go_simp
                (try with_reducible rfl)
              try simp only [Act.put, List.setIfInBounds_toArray, List.set_cons_zero, List.set_cons_succ]
              refine sink_take1 (i := 2) (d := some 87) (v := ?_) rfl rfl (by kernel_rfl) (by decide) (by kernel_rfl) (by kernel_rfl) (fun _ _ _ h => h) (Or.inl ⟨by rfl, ?_⟩) trivial ?_
              rotate_left
              · intro wz hSw
                (try dsimp only at hSw)
                go_simp
                (try with_reducible rfl)
              try simp only [Act.put, List.setIfInBounds_toArray, List.set_cons_zero, List.set_cons_succ]
              refine sink_take1 (i := 3) (d := some 88) (v := undef) rfl rfl (by kernel_rfl) (by decide) (by kernel_rfl) (by kernel_rfl) (fun _ _ _ h => h) (Or.inr ⟨by kernel_rfl, rfl⟩) trivial ?_
              try simp only [Act.put, List.setIfInBounds_toArray, List.set_cons_zero, List.set_cons_succ]
              refine sink_take1 (i := 4) (d := some 89) (v := undef) rfl rfl (by kernel_rfl) (by decide) (by kernel_rfl) (by kernel_rfl) (fun _ _ _ h => h) (Or.inr ⟨by kernel_rfl, rfl⟩) trivial ?_
              try simp only [Act.put, List.setIfInBounds_toArray, List.set_cons_zero, List.set_cons_succ]
              refine sink_take1 (i := 5) (d := some 90) (v := undef) rfl rfl (by kernel_rfl) (by decide) (by kernel_rfl) (by kernel_rfl) (fun _ _ _ h => h) (Or.inr ⟨by kernel_rfl, rfl⟩) trivial ?_
              try simp only [Act.put, List.setIfInBounds_toArray, List.set_cons_zero, List.set_cons_succ]
              refine sink_take1 (i := 6) (d := some 91) (v := undef) rfl rfl (by kernel_rfl) (by decide) (by kernel_rfl) (by kernel_rfl) (fun _ _ _ h => h) (Or.inr ⟨by kernel_rfl, rfl⟩) trivial ?_
              try simp only [Act.put, List.setIfInBounds_toArray, List.set_cons_zero, List.set_cons_succ]
              refine sink_take1 (i := 7) (d := some 92) (v := undef) rfl rfl (by kernel_rfl) (by decide) (by kernel_rfl) (by kernel_rfl) (fun _ _ _ h => h) (Or.inr ⟨by kernel_rfl, rfl⟩) trivial ?_
              try simp only [Act.put, List.setIfInBounds_toArray, List.set_cons_zero, List.set_cons_succ]
              refine sink_take1 (i := 8) (d := some 93) (v := undef) rfl rfl (by kernel_rfl) (by decide) (by kernel_rfl) (by kernel_rfl) (fun _ _ _ h => h) (Or.inr ⟨by kernel_rfl, rfl⟩) trivial ?_
              try simp only [Act.put, List.setIfInBounds_toArray, List.set_cons_zero, List.set_cons_succ]
              refine sink_take1 (i := 9) (d := some 94) (v := undef) rfl rfl (by kernel_rfl) (by decide) (by kernel_rfl) (by kernel_rfl) (fun _ _ _ h => h) (Or.inr ⟨by kernel_rfl, rfl⟩) trivial ?_
              try simp only [Act.put, List.setIfInBounds_toArray, List.set_cons_zero, List.set_cons_succ]
              refine sink_take1 (i := 10) (d := some 95) (v := undef) rfl rfl (by kernel_rfl) (by decide) (by kernel_rfl) (by kernel_rfl) (fun _ _ _ h => h) (Or.inr ⟨by kernel_rfl, rfl⟩) trivial ?_
              try simp only [Act.put, List.setIfInBounds_toArray, List.set_cons_zero, List.set_cons_succ]
              refine sink_take1 (i := 11) (d := some 96) (v := undef) rfl rfl (by kernel_rfl) (by decide) (by kernel_rfl) (by kernel_rfl) (fun _ _ _ h => h) (Or.inr ⟨by kernel_rfl, rfl⟩) trivial ?_
              try simp only [Act.put, List.setIfInBounds_toArray, List.set_cons_zero, List.set_cons_succ]
              refine sink_take1 (i := 12) (d := some 97) (v := undef) rfl rfl (by kernel_rfl) (by decide) (by kernel_rfl) (by kernel_rfl) (fun _ _ _ h => h) (Or.inr ⟨by kernel_rfl, rfl⟩) trivial ?_
              try simp only [Act.put, List.setIfInBounds_toArray, List.set_cons_zero, List.set_cons_succ]
              refine sink_take1 (i := 13) (d := some 98) (v := undef) rfl rfl (by kernel_rfl) (by decide) (by kernel_rfl) (by kernel_rfl) (fun _ _ _ h => h) (Or.inr ⟨by kernel_rfl, rfl⟩) trivial ?_
              try simp only [Act.put, List.setIfInBounds_toArray, List.set_cons_zero, List.set_cons_succ]
              refine sink_take1 (i := 14) (d := some 99) (v := undef) rfl rfl (by kernel_rfl) (by decide) (by kernel_rfl) (by kernel_rfl) (fun _ _ _ h => h) (Or.inr ⟨by kernel_rfl, rfl⟩) trivial ?_
              try simp only [Act.put, List.setIfInBounds_toArray, List.set_cons_zero, List.set_cons_succ]
              refine sink_take1 (i := 15) (d := some 100) (v := undef) rfl rfl (by kernel_rfl) (by decide) (by kernel_rfl) (by kernel_rfl) (fun _ _ _ h => h) (Or.inr ⟨by kernel_rfl, rfl⟩) trivial ?_
              try simp only [Act.put, List.setIfInBounds_toArray, List.set_cons_zero, List.set_cons_succ]
              refine sink_take1 (i := 16) (d := some 101) (v := undef) rfl rfl (by kernel_rfl) (by decide) (by kernel_rfl) (by kernel_rfl) (fun _ _ _ h => h) (Or.inr ⟨by kernel_rfl, rfl⟩) trivial ?_
              try simp only [Act.put, List.setIfInBounds_toArray, List.set_cons_zero, List.set_cons_succ]
              refine sink_take1 (i := 17) (d := some 102) (v := undef) rfl rfl (by kernel_rfl) (by decide) (by kernel_rfl) (by kernel_rfl) (fun _ _ _ h => h) (Or.inr ⟨by kernel_rfl, rfl⟩) trivial ?_
              try simp only [Act.put, List.setIfInBounds_toArray, List.set_cons_zero, List.set_cons_succ]
              refine sink_take1 (i := 18) (d := some 103) (v := undef) rfl rfl (by kernel_rfl) (by decide) (by kernel_rfl) (by kernel_rfl) (fun _ _ _ h => h) (Or.inr ⟨by kernel_rfl, rfl⟩) trivial ?_
              try simp only [Act.put, List.setIfInBounds_toArray, List.set_cons_zero, List.set_cons_succ]
              refine sink_take1 (i := 19) (d := some 104) (v := undef) rfl rfl (by kernel_rfl) (by decide) (by kernel_rfl) (by kernel_rfl) (fun _ _ _ h => h) (Or.inr ⟨by kernel_rfl, rfl⟩) trivial ?_
              try simp only [Act.put, List.setIfInBounds_toArray, List.set_cons_zero, List.set_cons_succ]
              refine sink_take1 (i := 20) (d := some 105) (v := ?_) rfl rfl (by kernel_rfl) (by decide) (by kernel_rfl) (by kernel_rfl) (fun _ _ _ h => h) (Or.inl ⟨by rfl, ?_⟩) trivial ?_
              rotate_left
              · intro wz hSw
                (try dsimp only at hSw)
                go_simp
                (try with_reducible rfl)
              try simp only [Act.put, List.setIfInBounds_toArray, List.set_cons_zero, List.set_cons_succ]
              refine sink_done (by kernel_rfl) ?_
              go_wp2_with fail
              go_roundw
              case rel => exact ⟨k + 1, cur, by omega, by go_num, by rw [HE.out]; rfl, HW.out.call ((Below.refl _ _).drew), HN.out⟩
              case measure => simp [intOf]; omega
            · obtain ⟨i1, i2⟩ := insM_at hins
              obtain ⟨g', cap', eg, -, hcell, hfz⟩ := HW.out.box (by intro e; rw [e] at hcl; simp at hcl)
              simp only [Value.slice.injEq, Option.some.injEq, Addr.mk.injEq, and_true] at eg
              obtain ⟨rfl, -, rfl⟩ := eg
              have hak := HAK.out.len (show q < ak.length by omega)
              have z1 := hcell (q + 1) (by omega)
              have z2 := hcell q (by omega)
              rw [i1] at z1
              rw [i2] at z2
              have fz1 := hfz (q + 1)
              have fz2 := hfz q
              have NXT := Lib.hid (fun hc => (insM_next HIN.out hc).1)
              rw [i1, i2] at NXT
              have ENDQ := Lib.hid (fun hc => insM_end HAK.out HMT.out HIN.out (Or.inr ⟨q, rfl, hc⟩))
              clear hcell hfz i1 i2 hins
              obtain ⟨a, ha⟩ : ∃ a, a = ak.getD q 0 := ⟨_, rfl⟩
              rw [← ha] at z2 hak NXT ENDQ
              clear ha
              obtain ⟨x', o', u', e', hx', hu'⟩ := HC.out a (by omega)
              cases e'
              obtain ⟨Av, nv, cv, rfl⟩ := hu'.shape
              have z3 : wr.cell? ⟨x, o + k, none⟩ = some (.slice Ag ng cg) := by rw [HW.out.2.1.cell hxl]; exact HXk.out
              have z4 : wr.cell? ⟨x, o + a, none⟩ = some (.slice Av nv cv) := by rw [HW.out.2.1.cell hxl]; exact hx'
              have XC := Lib.hid (fun W (hW : ∃ q, W = wr.drewN q) => refCompare12 _ _ _ _ W ((HU.out.call HW.out.2.1).drN hW) ((hu'.call HW.out.2.1).drN hW) (L5.out.2.2.2.1.at k) (L5.out.2.2.2.1.at a))
              have WLT := Lib.hid (fun hc => cW_lt (ls := ls) (i := k) (k := a) hc)
              have WGE := Lib.hid (fun hc => cW_ge (ls := ls) hak hc)
              clear hx' hu'
              generalize cP (ls.getD k default) (ls.getD a default) = r at *
              have e0 : ((q + 1 : Nat) : Int) = (q : Int) + 1 := by omega
              rw [e0]
              have d1 : (0 : Int) < (q : Int) + 1 := by omega
              have d2 : (q : Int) + 1 < (ak.length : Int) + 1 := by omega
              have d3 : (q : Int) < (ak.length : Int) + 1 := by omega
              have d4 : (q : Int) + 1 - 1 = (q : Int) := by omega
              have d5 : IntKind.i64.wrap (q : Int) = (q : Int) := by rw [IntKind.wrap_i64]; omega
              have d6 : (k : Int) < (ls.length : Int) := by omega
              have d7 : (a : Int) < (ls.length : Int) := by omega
              have d8 : ((q : Int) + 1).toNat = q + 1 := by omega
              have d9 : (0 : Int) ≤ (q : Int) + 1 := by omega
              rcases Int.lt_or_le r 0 with hr | hr
              · have NX := Lib.hid (NXT.out (WLT.out hr))
                have j1 : decide (r < 0) = true := by simp; omega
                go_wp2_with fail
                have hS0 : (fun W : World => W.cell? ⟨g, q + 1, none⟩ = some (.int .i64 (k : Nat)) ∧ W.cell? ⟨g, q, none⟩ = some (.int .i64 (a : Nat)) ∧ W.cell? ⟨x, o + k, none⟩ = some (.slice Ag ng cg) ∧ W.cell? ⟨x, o + a, none⟩ = some (.slice Av nv cv)) wr.drew := ⟨z1, z2, z3, z4⟩
                refine wp_region_sink (S := (fun W : World => W.cell? ⟨g, q + 1, none⟩ = some (.int .i64 (k : Nat)) ∧ W.cell? ⟨g, q, none⟩ = some (.int .i64 (a : Nat)) ∧ W.cell? ⟨x, o + k, none⟩ = some (.slice Ag ng cg) ∧ W.cell? ⟨x, o + a, none⟩ = some (.slice Av nv cv))) (n := 1000) (by kernel_rfl) ?_
                change wpSink _ _ _ _ _ 1000 21 _ _ _
                refine sink_take1 (i := 0) (d := some 85) (v := ?_) rfl rfl (by kernel_rfl) (by decide) (by kernel_rfl) (by kernel_rfl) (fun _ _ _ h => h) (Or.inl ⟨by rfl, ?_⟩) hS0 ?_
                rotate_left
                · intro wz hSw
                  (try dsimp only at hSw)
                  obtain ⟨g1, g2, g3, g4⟩ := hSw
                  go_simp
                  (try with_reducible rfl)
                try simp only [Act.put, List.setIfInBounds_toArray, List.set_cons_zero, List.set_cons_succ]
                refine sink_take1 (i := 1) (d := some 86) (v := ?_) rfl rfl (by kernel_rfl) (by decide) (by kernel_rfl) (by kernel_rfl) (fun _ _ _ h => h) (Or.inl ⟨by rfl, ?_⟩) hS0 ?_
                rotate_left
                · intro wz hSw
                  (try dsimp only at hSw)
                  obtain ⟨g1, g2, g3, g4⟩ := hSw
                  go_simp
                  (try with_reducible rfl)
                try simp only [Act.put, List.setIfInBounds_toArray, List.set_cons_zero, List.set_cons_succ]
                refine sink_take1 (i := 2) (d := some 87) (v := ?_) rfl rfl (by kernel_rfl) (by decide) (by kernel_rfl) (by kernel_rfl) (fun _ _ _ h => h) (Or.inl ⟨by rfl, ?_⟩) hS0 ?_
                rotate_left
                · intro wz hSw
                  (try dsimp only at hSw)
                  obtain ⟨g1, g2, g3, g4⟩ := hSw
                  go_simp
                  (try with_reducible rfl)
                try simp only [Act.put, List.setIfInBounds_toArray, List.set_cons_zero, List.set_cons_succ]
                refine sink_take1 (i := 3) (d := some 88) (v := ?_) rfl rfl (by kernel_rfl) (by decide) (by kernel_rfl) (by kernel_rfl) (fun _ _ _ h => h) (Or.inl ⟨by rfl, ?_⟩) hS0 ?_
                rotate_left
                · intro wz hSw
                  (try dsimp only at hSw)
                  obtain ⟨g1, g2, g3, g4⟩ := hSw
                  go_simp
                  (try with_reducible rfl)
                try simp only [Act.put, List.setIfInBounds_toArray, List.set_cons_zero, List.set_cons_succ]
                refine sink_take1 (i := 4) (d := some 89) (v := ?_) rfl rfl (by kernel_rfl) (by decide) (by kernel_rfl) (by kernel_rfl) (fun _ _ _ h => h) (Or.inl ⟨by rfl, ?_⟩) hS0 ?_
                rotate_left
                · intro wz hSw
                  (try dsimp only at hSw)
                  obtain ⟨g1, g2, g3, g4⟩ := hSw
                  go_simp
                  (try with_reducible rfl)
                try simp only [Act.put, List.setIfInBounds_toArray, List.set_cons_zero, List.set_cons_succ]
                refine sink_take1 (i := 5) (d := some 90) (v := ?_) rfl rfl (by kernel_rfl) (by decide) (by kernel_rfl) (by kernel_rfl) (fun _ _ _ h => h) (Or.inl ⟨by rfl, ?_⟩) hS0 ?_
                rotate_left
                · intro wz hSw
                  (try dsimp only at hSw)
                  obtain ⟨g1, g2, g3, g4⟩ := hSw
                  go_simp
                  (try with_reducible rfl)
                try simp only [Act.put, List.setIfInBounds_toArray, List.set_cons_zero, List.set_cons_succ]
                refine sink_take1 (i := 6) (d := some 91) (v := ?_) rfl rfl (by kernel_rfl) (by decide) (by kernel_rfl) (by kernel_rfl) (fun _ _ _ h => h) (Or.inl ⟨by rfl, ?_⟩) hS0 ?_
                rotate_left
                · intro wz hSw
                  (try dsimp only at hSw)
                  obtain ⟨g1, g2, g3, g4⟩ := hSw
                  go_simp
                  (try with_reducible rfl)
                try simp only [Act.put, List.setIfInBounds_toArray, List.set_cons_zero, List.set_cons_succ]
                refine sink_take1 (i := 7) (d := some 92) (v := ?_) rfl rfl (by kernel_rfl) (by decide) (by kernel_rfl) (by kernel_rfl) (fun _ _ _ h => h) (Or.inl ⟨by rfl, ?_⟩) hS0 ?_
                rotate_left
                · intro wz hSw
                  (try dsimp only at hSw)
                  obtain ⟨g1, g2, g3, g4⟩ := hSw
                  go_simp
                  (try with_reducible rfl)
                try simp only [Act.put, List.setIfInBounds_toArray, List.set_cons_zero, List.set_cons_succ]
                refine sink_take1 (i := 8) (d := some 93) (v := ?_) rfl rfl (by kernel_rfl) (by decide) (by kernel_rfl) (by kernel_rfl) (fun _ _ _ h => h) (Or.inl ⟨by rfl, ?_⟩) hS0 ?_
                rotate_left
                · intro wz hSw
                  (try dsimp only at hSw)
                  obtain ⟨g1, g2, g3, g4⟩ := hSw
                  go_simp
                  (try with_reducible rfl)
                try simp only [Act.put, List.setIfInBounds_toArray, List.set_cons_zero, List.set_cons_succ]
                refine sink_take1 (i := 9) (d := some 94) (v := ?_) rfl rfl (by kernel_rfl) (by decide) (by kernel_rfl) (by kernel_rfl) (fun _ _ _ h => h) (Or.inl ⟨by rfl, ?_⟩) hS0 ?_
                rotate_left
                · intro wz hSw
                  (try dsimp only at hSw)
                  obtain ⟨g1, g2, g3, g4⟩ := hSw
                  go_simp
                  (try with_reducible rfl)
                try simp only [Act.put, List.setIfInBounds_toArray, List.set_cons_zero, List.set_cons_succ]
                refine sink_take1 (i := 10) (d := some 95) (v := ?_) rfl rfl (by kernel_rfl) (by decide) (by kernel_rfl) (by kernel_rfl) (fun _ _ _ h => h) (Or.inl ⟨by rfl, ?_⟩) hS0 ?_
                rotate_left
                · intro wz hSw
                  (try dsimp only at hSw)
                  obtain ⟨g1, g2, g3, g4⟩ := hSw
                  go_simp
                  (try with_reducible rfl)
                try simp only [Act.put, List.setIfInBounds_toArray, List.set_cons_zero, List.set_cons_succ]
                refine sink_take1 (i := 11) (d := some 96) (v := ?_) rfl rfl (by kernel_rfl) (by decide) (by kernel_rfl) (by kernel_rfl) (fun _ _ _ h => h) (Or.inl ⟨by rfl, ?_⟩) hS0 ?_
                rotate_left
                · intro wz hSw
                  (try dsimp only at hSw)
                  obtain ⟨g1, g2, g3, g4⟩ := hSw
                  go_simp
                  (try with_reducible rfl)
                try simp only [Act.put, List.setIfInBounds_toArray, List.set_cons_zero, List.set_cons_succ]
                refine sink_take1 (i := 12) (d := some 97) (v := ?_) rfl rfl (by kernel_rfl) (by decide) (by kernel_rfl) (by kernel_rfl) (fun _ _ _ h => h) (Or.inl ⟨by rfl, ?_⟩) hS0 ?_
                rotate_left
                · intro wz hSw
                  (try dsimp only at hSw)
                  obtain ⟨g1, g2, g3, g4⟩ := hSw
                  go_simp
                  (try with_reducible rfl)
                try simp only [Act.put, List.setIfInBounds_toArray, List.set_cons_zero, List.set_cons_succ]
                refine sink_take1 (i := 13) (d := some 98) (v := ?_) rfl rfl (by kernel_rfl) (by decide) (by kernel_rfl) (by kernel_rfl) (fun _ _ _ h => h) (Or.inl ⟨by rfl, ?_⟩) hS0 ?_
                rotate_left
                · intro wz hSw
                  (try dsimp only at hSw)
                  obtain ⟨g1, g2, g3, g4⟩ := hSw
                  go_simp
                  (try with_reducible rfl)
                try simp only [Act.put, List.setIfInBounds_toArray, List.set_cons_zero, List.set_cons_succ]
                refine sink_take1 (i := 14) (d := some 99) (v := ?_) rfl rfl (by kernel_rfl) (by decide) (by kernel_rfl) (by kernel_rfl) (fun _ _ _ h => h) (Or.inl ⟨by rfl, ?_⟩) hS0 ?_
                rotate_left
                · intro wz hSw
                  (try dsimp only at hSw)
                  obtain ⟨g1, g2, g3, g4⟩ := hSw
                  go_simp
                  (try with_reducible rfl)
                try simp only [Act.put, List.setIfInBounds_toArray, List.set_cons_zero, List.set_cons_succ]
                refine sink_take1 (i := 15) (d := some 100) (v := ?_) rfl rfl (by kernel_rfl) (by decide) (by kernel_rfl) (by kernel_rfl) (fun _ _ _ h => h) (Or.inl ⟨by rfl, ?_⟩) hS0 ?_
                rotate_left
                · intro wz hSw
                  (try dsimp only at hSw)
                  obtain ⟨g1, g2, g3, g4⟩ := hSw
                  go_simp
                  (try with_reducible rfl)
                try simp only [Act.put, List.setIfInBounds_toArray, List.set_cons_zero, List.set_cons_succ]
                refine sink_take1 (i := 16) (d := some 101) (v := ?_) rfl rfl (by kernel_rfl) (by decide) (by kernel_rfl) (by kernel_rfl) (fun _ _ _ h => h) (Or.inl ⟨by rfl, ?_⟩) hS0 ?_
                rotate_left
                · intro wz hSw
                  (try dsimp only at hSw)
                  obtain ⟨g1, g2, g3, g4⟩ := hSw
                  go_simp
                  (try with_reducible rfl)
                try simp only [Act.put, List.setIfInBounds_toArray, List.set_cons_zero, List.set_cons_succ]
                refine sink_take1 (i := 17) (d := some 102) (v := ?_) rfl rfl (by kernel_rfl) (by decide) (by kernel_rfl) (by kernel_rfl) (fun _ _ _ h => h) (Or.inl ⟨by rfl, ?_⟩) hS0 ?_
                rotate_left
                · intro wz hSw
                  (try dsimp only at hSw)
                  obtain ⟨g1, g2, g3, g4⟩ := hSw
                  go_simp
                  (try with_reducible rfl)
                try simp only [Act.put, List.setIfInBounds_toArray, List.set_cons_zero, List.set_cons_succ]
                refine sink_one (i := 18) (by kernel_rfl) ?_
                refine wpOp_step rfl (fun K' hK => ?_)
                have HKK := Lib.hid hK
                clear hK
                rw [if_pos (by rfl)]
                go_simp
                refine (XC.out _ ⟨1, rfl⟩).mono ?_
                rintro e w7 ⟨rfl, hq7⟩
                have D7 := Lib.hid (drT ⟨1, rfl⟩ hq7)
                have hS7 : (fun W : World => W.cell? ⟨g, q + 1, none⟩ = some (.int .i64 (k : Nat)) ∧ W.cell? ⟨g, q, none⟩ = some (.int .i64 (a : Nat)) ∧ W.cell? ⟨x, o + k, none⟩ = some (.slice Ag ng cg) ∧ W.cell? ⟨x, o + a, none⟩ = some (.slice Av nv cv)) w7 := ⟨by rw [drC D7.out]; exact z1, by rw [drC D7.out]; exact z2, by rw [drC D7.out]; exact z3, by rw [drC D7.out]; exact z4⟩
                clear hq7
                refine HKK.out _ _ ⟨Or.inr hS7, ?_⟩
                clear HKK
                try simp only [Act.put, List.setIfInBounds_toArray, List.set_cons_zero, List.set_cons_succ]
                refine sink_take1 (i := 19) (d := some 104) (v := ?_) rfl rfl (by kernel_rfl) (by decide) (by kernel_rfl) (by kernel_rfl) (fun _ _ _ h => h) (Or.inl ⟨by rfl, ?_⟩) hS7 ?_
                rotate_left
                · intro wz hSw
                  (try dsimp only at hSw)
                  obtain ⟨g1, g2, g3, g4⟩ := hSw
                  go_simp
                  (try with_reducible rfl)
                try simp only [Act.put, List.setIfInBounds_toArray, List.set_cons_zero, List.set_cons_succ]
                refine sink_take1 (i := 20) (d := some 105) (v := ?_) rfl rfl (by kernel_rfl) (by decide) (by kernel_rfl) (by kernel_rfl) (fun _ _ _ h => h) (Or.inl ⟨by rfl, ?_⟩) hS7 ?_
                rotate_left
                · intro wz hSw
                  (try dsimp only at hSw)
                  obtain ⟨g1, g2, g3, g4⟩ := hSw
                  go_simp
                  (try with_reducible rfl)
                try simp only [Act.put, List.setIfInBounds_toArray, List.set_cons_zero, List.set_cons_succ]
                refine sink_done (by kernel_rfl) ?_
                have B7 := Lib.hid (drB D7.out wr.heap.size)
                have SW := Lib.hid ((((HW.out.call B7.out).call ((Below.refl _ _).drew)).set (q + 1) a).set q k)
                have y1 : w7.cell? ⟨g, q + 1, none⟩ = some (.int .i64 (k : Nat)) := by rw [drC D7.out]; exact z1
                have y2 : w7.cell? ⟨g, q, none⟩ = some (.int .i64 (a : Nat)) := by rw [drC D7.out]; exact z2
                have f1 : w7.frozen? ⟨g, q + 1, none⟩ = false := by obtain ⟨m, rfl⟩ := D7.out; exact fz1
                have f2 : w7.frozen? ⟨g, q, none⟩ = false := by obtain ⟨m, rfl⟩ := D7.out; exact fz2
                clear hS0 hS7 z1 z2 z3 z4 fz1 fz2 XC B7
                go_wp2_with fail
                refine wp_region_sink (S := (fun _ : World => True)) (n := 1000) (by kernel_rfl) ?_
                change wpSink _ _ _ _ _ 1000 18 _ _ _
                refine sink_take1 (i := 0) (d := some 108) (v := ?_) rfl rfl (by kernel_rfl) (by decide) (by kernel_rfl) (by kernel_rfl) (fun _ _ _ h => h) (Or.inl ⟨by rfl, ?_⟩) trivial ?_
                rotate_left
                · intro wz hSw
                  (try dsimp only at hSw)
                  go_simp
                  (try with_reducible rfl)
                try simp only [Act.put, List.setIfInBounds_toArray, List.set_cons_zero, List.set_cons_succ]
                refine sink_take1 (i := 1) (d := some 109) (v := ?_) rfl rfl (by kernel_rfl) (by decide) (by kernel_rfl) (by kernel_rfl) (fun _ _ _ h => h) (Or.inl ⟨by rfl, ?_⟩) trivial ?_
                rotate_left
                · intro wz hSw
                  (try dsimp only at hSw)
                  go_simp
                  (try with_reducible rfl)
                try simp only [Act.put, List.setIfInBounds_toArray, List.set_cons_zero, List.set_cons_succ]
                refine sink_take1 (i := 2) (d := some 110) (v := ?_) rfl rfl (by kernel_rfl) (by decide) (by kernel_rfl) (by kernel_rfl) (fun _ _ _ h => h) (Or.inl ⟨by rfl, ?_⟩) trivial ?_
                rotate_left
                · intro wz hSw
                  (try dsimp only at hSw)
                  go_simp
                  (try with_reducible rfl)
                try simp only [Act.put, List.setIfInBounds_toArray, List.set_cons_zero, List.set_cons_succ]
                refine sink_take1 (i := 3) (d := some 111) (v := ?_) rfl rfl (by kernel_rfl) (by decide) (by kernel_rfl) (by kernel_rfl) (fun _ _ _ h => h) (Or.inl ⟨by rfl, ?_⟩) trivial ?_
                rotate_left
                · intro wz hSw
                  (try dsimp only at hSw)
                  go_simp
                  (try with_reducible rfl)
                try simp only [Act.put, List.setIfInBounds_toArray, List.set_cons_zero, List.set_cons_succ]
                refine sink_take1 (i := 4) (d := some 112) (v := ?_) rfl rfl (by kernel_rfl) (by decide) (by kernel_rfl) (by kernel_rfl) (fun _ _ _ h => h) (Or.inl ⟨by rfl, ?_⟩) trivial ?_
                rotate_left
                · intro wz hSw
                  (try dsimp only at hSw)
                  go_simp
                  (try with_reducible rfl)
                try simp only [Act.put, List.setIfInBounds_toArray, List.set_cons_zero, List.set_cons_succ]
                refine sink_take1 (i := 5) (d := some 113) (v := ?_) rfl rfl (by kernel_rfl) (by decide) (by kernel_rfl) (by kernel_rfl) (fun _ _ _ h => h) (Or.inl ⟨by rfl, ?_⟩) trivial ?_
                rotate_left
                · intro wz hSw
                  (try dsimp only at hSw)
                  go_simp
                  (try with_reducible rfl)
                try simp only [Act.put, List.setIfInBounds_toArray, List.set_cons_zero, List.set_cons_succ]
                refine sink_take1 (i := 6) (d := some 114) (v := ?_) rfl rfl (by kernel_rfl) (by decide) (by kernel_rfl) (by kernel_rfl) (fun _ _ _ h => h) (Or.inl ⟨by rfl, ?_⟩) trivial ?_
                rotate_left
                · intro wz hSw
                  (try dsimp only at hSw)
                  go_simp
                  (try with_reducible rfl)
                try simp only [Act.put, List.setIfInBounds_toArray, List.set_cons_zero, List.set_cons_succ]
                refine sink_take1 (i := 7) (d := some 115) (v := ?_) rfl rfl (by kernel_rfl) (by decide) (by kernel_rfl) (by kernel_rfl) (fun _ _ _ h => h) (Or.inl ⟨by rfl, ?_⟩) trivial ?_
                rotate_left
                · intro wz hSw
                  (try dsimp only at hSw)
                  go_simp
                  (try with_reducible rfl)
                try simp only [Act.put, List.setIfInBounds_toArray, List.set_cons_zero, List.set_cons_succ]
                refine sink_take1 (i := 8) (d := some 116) (v := ?_) rfl rfl (by kernel_rfl) (by decide) (by kernel_rfl) (by kernel_rfl) (fun _ _ _ h => h) (Or.inl ⟨by rfl, ?_⟩) trivial ?_
                rotate_left
                · intro wz hSw
                  (try dsimp only at hSw)
                  go_simp
                  (try with_reducible rfl)
                try simp only [Act.put, List.setIfInBounds_toArray, List.set_cons_zero, List.set_cons_succ]
                refine sink_take1 (i := 10) (d := some 118) (v := ?_) rfl rfl (by kernel_rfl) (by decide) (by kernel_rfl) (by kernel_rfl) (fun _ _ _ h => h) (Or.inl ⟨by rfl, ?_⟩) trivial ?_
                rotate_left
                · intro wz hSw
                  (try dsimp only at hSw)
                  go_simp
                  (try with_reducible rfl)
                try simp only [Act.put, List.setIfInBounds_toArray, List.set_cons_zero, List.set_cons_succ]
                refine sink_take1 (i := 11) (d := some 119) (v := ?_) rfl rfl (by kernel_rfl) (by decide) (by kernel_rfl) (by kernel_rfl) (fun _ _ _ h => h) (Or.inl ⟨by rfl, ?_⟩) trivial ?_
                rotate_left
                · intro wz hSw
                  (try dsimp only at hSw)
                  go_simp
                  (try with_reducible rfl)
                try simp only [Act.put, List.setIfInBounds_toArray, List.set_cons_zero, List.set_cons_succ]
                refine sink_take1 (i := 12) (d := some 120) (v := ?_) rfl rfl (by kernel_rfl) (by decide) (by kernel_rfl) (by kernel_rfl) (fun _ _ _ h => h) (Or.inl ⟨by rfl, ?_⟩) trivial ?_
                rotate_left
                · intro wz hSw
                  (try dsimp only at hSw)
                  go_simp
                  (try with_reducible rfl)
                try simp only [Act.put, List.setIfInBounds_toArray, List.set_cons_zero, List.set_cons_succ]
                refine sink_either (i := 9) (j := 13) (by kernel_rfl) ?_ ?_
                · refine wpOp_step rfl (fun K' hK => ?_)
                  have HKK := Lib.hid hK
                  clear hK
                  rw [if_pos (by rfl)]
                  go_simp
                  refine HKK.out _ _ ⟨Or.inr trivial, ?_⟩
                  clear HKK
                  try simp only [Act.put, List.setIfInBounds_toArray, List.set_cons_zero, List.set_cons_succ]
                  refine sink_one (i := 13) (by kernel_rfl) ?_
                  refine wpOp_step rfl (fun K' hK => ?_)
                  have HKK := Lib.hid hK
                  clear hK
                  rw [if_pos (by rfl)]
                  go_simp
                  refine HKK.out _ _ ⟨Or.inr trivial, ?_⟩
                  clear HKK
                  try simp only [Act.put, List.setIfInBounds_toArray, List.set_cons_zero, List.set_cons_succ]
                  refine sink_one (i := 14) (by kernel_rfl) ?_
                  refine wpOp_step rfl (fun K' hK => ?_)
                  have HKK := Lib.hid hK
                  clear hK
                  rw [if_pos (by rfl)]
                  go_simp
                  refine HKK.out _ _ ⟨Or.inr trivial, ?_⟩
                  clear HKK
                  try simp only [Act.put, List.setIfInBounds_toArray, List.set_cons_zero, List.set_cons_succ]
                  refine sink_one (i := 15) (by kernel_rfl) ?_
                  refine wpOp_step rfl (fun K' hK => ?_)
                  have HKK := Lib.hid hK
                  clear hK
                  rw [if_pos (by rfl)]
                  go_simp
                  refine HKK.out _ _ ⟨Or.inr trivial, ?_⟩
                  clear HKK
                  try simp only [Act.put, List.setIfInBounds_toArray, List.set_cons_zero, List.set_cons_succ]
                  refine sink_one (i := 16) (by kernel_rfl) ?_
                  refine wpOp_step rfl (fun K' hK => ?_)
                  have HKK := Lib.hid hK
                  clear hK
                  rw [if_pos (by rfl)]
                  go_simp
                  refine HKK.out _ _ ⟨Or.inr trivial, ?_⟩
                  clear HKK
                  try simp only [Act.put, List.setIfInBounds_toArray, List.set_cons_zero, List.set_cons_succ]
                  refine sink_one (i := 17) (by kernel_rfl) ?_
                  refine wpOp_step rfl (fun K' hK => ?_)
                  have HKK := Lib.hid hK
                  clear hK
                  rw [if_pos (by rfl)]
                  go_simp
                  refine HKK.out _ _ ⟨Or.inr trivial, ?_⟩
                  clear HKK
                  try simp only [Act.put, List.setIfInBounds_toArray, List.set_cons_zero, List.set_cons_succ]
                  refine sink_done (by kernel_rfl) ?_
                  go_wp2_with fail
                  go_roundw
                  case rel =>
                    refine ⟨q, _, rfl, NX.out, ?_⟩
                    exact SW.out
                  case measure => simp [intOf]
                · refine wpOp_step rfl (fun K' hK => ?_)
                  have HKK := Lib.hid hK
                  clear hK
                  rw [if_pos (by rfl)]
                  go_simp
                  refine HKK.out _ _ ⟨Or.inr trivial, ?_⟩
                  clear HKK
                  try simp only [Act.put, List.setIfInBounds_toArray, List.set_cons_zero, List.set_cons_succ]
                  refine sink_one (i := 9) (by kernel_rfl) ?_
                  refine wpOp_step rfl (fun K' hK => ?_)
                  have HKK := Lib.hid hK
                  clear hK
                  rw [if_pos (by rfl)]
                  go_simp
                  refine HKK.out _ _ ⟨Or.inr trivial, ?_⟩
                  clear HKK
                  try simp only [Act.put, List.setIfInBounds_toArray, List.set_cons_zero, List.set_cons_succ]
                  refine sink_one (i := 14) (by kernel_rfl) ?_
                  refine wpOp_step rfl (fun K' hK => ?_)
                  have HKK := Lib.hid hK
                  clear hK
                  rw [if_pos (by rfl)]
                  go_simp
                  refine HKK.out _ _ ⟨Or.inr trivial, ?_⟩
                  clear HKK
                  try simp only [Act.put, List.setIfInBounds_toArray, List.set_cons_zero, List.set_cons_succ]
                  refine sink_one (i := 15) (by kernel_rfl) ?_
                  refine wpOp_step rfl (fun K' hK => ?_)
                  have HKK := Lib.hid hK
                  clear hK
                  rw [if_pos (by rfl)]
                  go_simp
                  refine HKK.out _ _ ⟨Or.inr trivial, ?_⟩
                  clear HKK
                  try simp only [Act.put, List.setIfInBounds_toArray, List.set_cons_zero, List.set_cons_succ]
                  refine sink_one (i := 16) (by kernel_rfl) ?_
                  refine wpOp_step rfl (fun K' hK => ?_)
                  have HKK := Lib.hid hK
                  clear hK
                  rw [if_pos (by rfl)]
                  go_simp
                  refine HKK.out _ _ ⟨Or.inr trivial, ?_⟩
                  clear HKK
                  try simp only [Act.put, List.setIfInBounds_toArray, List.set_cons_zero, List.set_cons_succ]
                  refine sink_one (i := 17) (by kernel_rfl) ?_
                  refine wpOp_step rfl (fun K' hK => ?_)
                  have HKK := Lib.hid hK
                  clear hK
                  rw [if_pos (by rfl)]
                  go_simp
                  refine HKK.out _ _ ⟨Or.inr trivial, ?_⟩
                  clear HKK
                  try simp only [Act.put, List.setIfInBounds_toArray, List.set_cons_zero, List.set_cons_succ]
                  refine sink_done (by kernel_rfl) ?_
                  go_wp2_with fail
                  go_roundw
                  case rel =>
                    refine ⟨q, _, rfl, NX.out, ?_⟩
                    exact SW.out
                  case measure => simp [intOf]
              · have hr2 : ¬ r < 0 := by omega
                have HN := Lib.hid (ENDQ.out (WGE.out hr2))
                have j1 : decide (r < 0) = false := by simp; omega
                go_wp2_with fail
                have hS0 : (fun W : World => W.cell? ⟨g, q + 1, none⟩ = some (.int .i64 (k : Nat)) ∧ W.cell? ⟨g, q, none⟩ = some (.int .i64 (a : Nat)) ∧ W.cell? ⟨x, o + k, none⟩ = some (.slice Ag ng cg) ∧ W.cell? ⟨x, o + a, none⟩ = some (.slice Av nv cv)) wr.drew := ⟨z1, z2, z3, z4⟩
                refine wp_region_sink (S := (fun W : World => W.cell? ⟨g, q + 1, none⟩ = some (.int .i64 (k : Nat)) ∧ W.cell? ⟨g, q, none⟩ = some (.int .i64 (a : Nat)) ∧ W.cell? ⟨x, o + k, none⟩ = some (.slice Ag ng cg) ∧ W.cell? ⟨x, o + a, none⟩ = some (.slice Av nv cv))) (n := 1000) (by kernel_rfl) ?_
                change wpSink _ _ _ _ _ 1000 21 _ _ _
                refine sink_take1 (i := 0) (d := some 85) (v := ?_) rfl rfl (by kernel_rfl) (by decide) (by kernel_rfl) (by kernel_rfl) (fun _ _ _ h => h) (Or.inl ⟨by rfl, ?_⟩) hS0 ?_
                rotate_left
                · intro wz hSw
                  (try dsimp only at hSw)
                  obtain ⟨g1, g2, g3, g4⟩ := hSw
                  go_simp
                  (try with_reducible rfl)
                try simp only [Act.put, List.setIfInBounds_toArray, List.set_cons_zero, List.set_cons_succ]
                refine sink_take1 (i := 1) (d := some 86) (v := ?_) rfl rfl (by kernel_rfl) (by decide) (by kernel_rfl) (by kernel_rfl) (fun _ _ _ h => h) (Or.inl ⟨by rfl, ?_⟩) hS0 ?_
                rotate_left
                · intro wz hSw
                  (try dsimp only at hSw)
                  obtain ⟨g1, g2, g3, g4⟩ := hSw
                  go_simp
                  (try with_reducible rfl)
                try simp only [Act.put, List.setIfInBounds_toArray, List.set_cons_zero, List.set_cons_succ]
                refine sink_take1 (i := 2) (d := some 87) (v := ?_) rfl rfl (by kernel_rfl) (by decide) (by kernel_rfl) (by kernel_rfl) (fun _ _ _ h => h) (Or.inl ⟨by rfl, ?_⟩) hS0 ?_
                rotate_left
                · intro wz hSw
                  (try dsimp only at hSw)
                  obtain ⟨g1, g2, g3, g4⟩ := hSw
                  go_simp
                  (try with_reducible rfl)
                try simp only [Act.put, List.setIfInBounds_toArray, List.set_cons_zero, List.set_cons_succ]
                refine sink_take1 (i := 3) (d := some 88) (v := ?_) rfl rfl (by kernel_rfl) (by decide) (by kernel_rfl) (by kernel_rfl) (fun _ _ _ h => h) (Or.inl ⟨by rfl, ?_⟩) hS0 ?_
                rotate_left
                · intro wz hSw
                  (try dsimp only at hSw)
                  obtain ⟨g1, g2, g3, g4⟩ := hSw
                  go_simp
                  (try with_reducible rfl)
                try simp only [Act.put, List.setIfInBounds_toArray, List.set_cons_zero, List.set_cons_succ]
                refine sink_take1 (i := 4) (d := some 89) (v := ?_) rfl rfl (by kernel_rfl) (by decide) (by kernel_rfl) (by kernel_rfl) (fun _ _ _ h => h) (Or.inl ⟨by rfl, ?_⟩) hS0 ?_
                rotate_left
                · intro wz hSw
                  (try dsimp only at hSw)
                  obtain ⟨g1, g2, g3, g4⟩ := hSw
                  go_simp
                  (try with_reducible rfl)
                try simp only [Act.put, List.setIfInBounds_toArray, List.set_cons_zero, List.set_cons_succ]
                refine sink_take1 (i := 5) (d := some 90) (v := ?_) rfl rfl (by kernel_rfl) (by decide) (by kernel_rfl) (by kernel_rfl) (fun _ _ _ h => h) (Or.inl ⟨by rfl, ?_⟩) hS0 ?_
                rotate_left
                · intro wz hSw
                  (try dsimp only at hSw)
                  obtain ⟨g1, g2, g3, g4⟩ := hSw
                  go_simp
                  (try with_reducible rfl)
                try simp only [Act.put, List.setIfInBounds_toArray, List.set_cons_zero, List.set_cons_succ]
                refine sink_take1 (i := 6) (d := some 91) (v := ?_) rfl rfl (by kernel_rfl) (by decide) (by kernel_rfl) (by kernel_rfl) (fun _ _ _ h => h) (Or.inl ⟨by rfl, ?_⟩) hS0 ?_
                rotate_left
                · intro wz hSw
                  (try dsimp only at hSw)
                  obtain ⟨g1, g2, g3, g4⟩ := hSw
                  go_simp
                  (try with_reducible rfl)
                try simp only [Act.put, List.setIfInBounds_toArray, List.set_cons_zero, List.set_cons_succ]
                refine sink_take1 (i := 7) (d := some 92) (v := ?_) rfl rfl (by kernel_rfl) (by decide) (by kernel_rfl) (by kernel_rfl) (fun _ _ _ h => h) (Or.inl ⟨by rfl, ?_⟩) hS0 ?_
                rotate_left
                · intro wz hSw
                  (try dsimp only at hSw)
                  obtain ⟨g1, g2, g3, g4⟩ := hSw
                  go_simp
                  (try with_reducible rfl)
                try simp only [Act.put, List.setIfInBounds_toArray, List.set_cons_zero, List.set_cons_succ]
                refine sink_take1 (i := 8) (d := some 93) (v := ?_) rfl rfl (by kernel_rfl) (by decide) (by kernel_rfl) (by kernel_rfl) (fun _ _ _ h => h) (Or.inl ⟨by rfl, ?_⟩) hS0 ?_
                rotate_left
                · intro wz hSw
                  (try dsimp only at hSw)
                  obtain ⟨g1, g2, g3, g4⟩ := hSw
                  go_simp
                  (try with_reducible rfl)
                try simp only [Act.put, List.setIfInBounds_toArray, List.set_cons_zero, List.set_cons_succ]
                refine sink_take1 (i := 9) (d := some 94) (v := ?_) rfl rfl (by kernel_rfl) (by decide) (by kernel_rfl) (by kernel_rfl) (fun _ _ _ h => h) (Or.inl ⟨by rfl, ?_⟩) hS0 ?_
                rotate_left
                · intro wz hSw
                  (try dsimp only at hSw)
                  obtain ⟨g1, g2, g3, g4⟩ := hSw
                  go_simp
                  (try with_reducible rfl)
                try simp only [Act.put, List.setIfInBounds_toArray, List.set_cons_zero, List.set_cons_succ]
                refine sink_take1 (i := 10) (d := some 95) (v := ?_) rfl rfl (by kernel_rfl) (by decide) (by kernel_rfl) (by kernel_rfl) (fun _ _ _ h => h) (Or.inl ⟨by rfl, ?_⟩) hS0 ?_
                rotate_left
                · intro wz hSw
                  (try dsimp only at hSw)
                  obtain ⟨g1, g2, g3, g4⟩ := hSw
                  go_simp
                  (try with_reducible rfl)
                try simp only [Act.put, List.setIfInBounds_toArray, List.set_cons_zero, List.set_cons_succ]
                refine sink_take1 (i := 11) (d := some 96) (v := ?_) rfl rfl (by kernel_rfl) (by decide) (by kernel_rfl) (by kernel_rfl) (fun _ _ _ h => h) (Or.inl ⟨by rfl, ?_⟩) hS0 ?_
                rotate_left
                · intro wz hSw
                  (try dsimp only at hSw)
                  obtain ⟨g1, g2, g3, g4⟩ := hSw
                  go_simp
                  (try with_reducible rfl)
                try simp only [Act.put, List.setIfInBounds_toArray, List.set_cons_zero, List.set_cons_succ]
                refine sink_take1 (i := 12) (d := some 97) (v := ?_) rfl rfl (by kernel_rfl) (by decide) (by kernel_rfl) (by kernel_rfl) (fun _ _ _ h => h) (Or.inl ⟨by rfl, ?_⟩) hS0 ?_
                rotate_left
                · intro wz hSw
                  (try dsimp only at hSw)
                  obtain ⟨g1, g2, g3, g4⟩ := hSw
                  go_simp
                  (try with_reducible rfl)
                try simp only [Act.put, List.setIfInBounds_toArray, List.set_cons_zero, List.set_cons_succ]
                refine sink_take1 (i := 13) (d := some 98) (v := ?_) rfl rfl (by kernel_rfl) (by decide) (by kernel_rfl) (by kernel_rfl) (fun _ _ _ h => h) (Or.inl ⟨by rfl, ?_⟩) hS0 ?_
                rotate_left
                · intro wz hSw
                  (try dsimp only at hSw)
                  obtain ⟨g1, g2, g3, g4⟩ := hSw
                  go_simp
                  (try with_reducible rfl)
                try simp only [Act.put, List.setIfInBounds_toArray, List.set_cons_zero, List.set_cons_succ]
                refine sink_take1 (i := 14) (d := some 99) (v := ?_) rfl rfl (by kernel_rfl) (by decide) (by kernel_rfl) (by kernel_rfl) (fun _ _ _ h => h) (Or.inl ⟨by rfl, ?_⟩) hS0 ?_
                rotate_left
                · intro wz hSw
                  (try dsimp only at hSw)
                  obtain ⟨g1, g2, g3, g4⟩ := hSw
                  go_simp
                  (try with_reducible rfl)
                try simp only [Act.put, List.setIfInBounds_toArray, List.set_cons_zero, List.set_cons_succ]
                refine sink_take1 (i := 15) (d := some 100) (v := ?_) rfl rfl (by kernel_rfl) (by decide) (by kernel_rfl) (by kernel_rfl) (fun _ _ _ h => h) (Or.inl ⟨by rfl, ?_⟩) hS0 ?_
                rotate_left
                · intro wz hSw
                  (try dsimp only at hSw)
                  obtain ⟨g1, g2, g3, g4⟩ := hSw
                  go_simp
                  (try with_reducible rfl)
                try simp only [Act.put, List.setIfInBounds_toArray, List.set_cons_zero, List.set_cons_succ]
                refine sink_take1 (i := 16) (d := some 101) (v := ?_) rfl rfl (by kernel_rfl) (by decide) (by kernel_rfl) (by kernel_rfl) (fun _ _ _ h => h) (Or.inl ⟨by rfl, ?_⟩) hS0 ?_
                rotate_left
                · intro wz hSw
                  (try dsimp only at hSw)
                  obtain ⟨g1, g2, g3, g4⟩ := hSw
                  go_simp
                  (try with_reducible rfl)
                try simp only [Act.put, List.setIfInBounds_toArray, List.set_cons_zero, List.set_cons_succ]
                refine sink_take1 (i := 17) (d := some 102) (v := ?_) rfl rfl (by kernel_rfl) (by decide) (by kernel_rfl) (by kernel_rfl) (fun _ _ _ h => h) (Or.inl ⟨by rfl, ?_⟩) hS0 ?_
                rotate_left
                · intro wz hSw
                  (try dsimp only at hSw)
                  obtain ⟨g1, g2, g3, g4⟩ := hSw
                  go_simp
                  (try with_reducible rfl)
                try simp only [Act.put, List.setIfInBounds_toArray, List.set_cons_zero, List.set_cons_succ]
                refine sink_one (i := 18) (by kernel_rfl) ?_
                refine wpOp_step rfl (fun K' hK => ?_)
                have HKK := Lib.hid hK
                clear hK
                rw [if_pos (by rfl)]
                go_simp
                refine (XC.out _ ⟨1, rfl⟩).mono ?_
                rintro e w7 ⟨rfl, hq7⟩
                have D7 := Lib.hid (drT ⟨1, rfl⟩ hq7)
                have hS7 : (fun W : World => W.cell? ⟨g, q + 1, none⟩ = some (.int .i64 (k : Nat)) ∧ W.cell? ⟨g, q, none⟩ = some (.int .i64 (a : Nat)) ∧ W.cell? ⟨x, o + k, none⟩ = some (.slice Ag ng cg) ∧ W.cell? ⟨x, o + a, none⟩ = some (.slice Av nv cv)) w7 := ⟨by rw [drC D7.out]; exact z1, by rw [drC D7.out]; exact z2, by rw [drC D7.out]; exact z3, by rw [drC D7.out]; exact z4⟩
                clear hq7
                refine HKK.out _ _ ⟨Or.inr hS7, ?_⟩
                clear HKK
                try simp only [Act.put, List.setIfInBounds_toArray, List.set_cons_zero, List.set_cons_succ]
                refine sink_take1 (i := 19) (d := some 104) (v := ?_) rfl rfl (by kernel_rfl) (by decide) (by kernel_rfl) (by kernel_rfl) (fun _ _ _ h => h) (Or.inl ⟨by rfl, ?_⟩) hS7 ?_
                rotate_left
                · intro wz hSw
                  (try dsimp only at hSw)
                  obtain ⟨g1, g2, g3, g4⟩ := hSw
                  go_simp
                  (try with_reducible rfl)
                try simp only [Act.put, List.setIfInBounds_toArray, List.set_cons_zero, List.set_cons_succ]
                refine sink_take1 (i := 20) (d := some 105) (v := ?_) rfl rfl (by kernel_rfl) (by decide) (by kernel_rfl) (by kernel_rfl) (fun _ _ _ h => h) (Or.inl ⟨by rfl, ?_⟩) hS7 ?_
                rotate_left
                · intro wz hSw
                  (try dsimp only at hSw)
                  obtain ⟨g1, g2, g3, g4⟩ := hSw
                  go_simp
                  (try with_reducible rfl)
                try simp only [Act.put, List.setIfInBounds_toArray, List.set_cons_zero, List.set_cons_succ]
                refine sink_done (by kernel_rfl) ?_
                clear hS0 hS7
                go_wp2_with fail
                go_roundw
                case rel => exact ⟨k + 1, cur, by omega, by go_num, by rw [HE.out]; rfl, HW.out.call (drB D7.out _), HN.out⟩
                case measure => simp [intOf]; omega
    · obtain rfl : k = ls.length := by omega
      have hal3 : AllN ls path ak := HAK.out
      have EQ := Lib.hid (hal3.uniq AL.out)
      have T9 := Lib.hid (T5.out.call HO.out.2.1)
      have L9 := Lib.hid (L5.out.call HO.out.2.1)
      have P9 := Lib.hid (P5.out.call HO.out.2.1)
      have R9 := Lib.hid (R5.out.call HO.out.2.1)
      have XL := Lib.hid (fun W (hW : Below wr.heap.size wr W) => trieLen (T9.out.call hW))
      have N9 := Lib.hid HO.out.ni
      rw [EQ.out] at N9
      have LEN : Hid ((aL ls path al).length ≤ 1000000000) := by
        show _ ≤ _
        cases al with
        | nil => simp [aL]
        | cons i0 al => exact mt_len _ _
      have ALw := Lib.hid (fun W (hW : Below wr.heap.size wr W) => trieAll (T9.out.call hW) _ path (L9.out.call hW).2.1 L9.out.2.2.2.2.1 AL.out)
      clear HO HAK T5 L5 P5 R5 hal3 EQ hlt hk
      generalize (idxR ls ls.length).length = nn at *
      generalize aN al = z at *
      generalize aL ls path al = pl at *
      generalize (!al.isEmpty) = bb at *
      have e1 : (z == z) = true := by simp
      have e2 : (bb == bb) = true := by simp
      have e3 : ((nn : Int) == (nn : Int)) = true := by simp
      go_wp2_with (first
        | (go_at_call 8; refine (sameP _ _ _ _ _ P9.out R9.out LEN.out).mono ?_; rintro e wa ⟨rfl, hba⟩; have BA := Lib.hid hba; rw [decide_eq_true rfl]; clear hba)
        | (go_at_call 11; refine (XL.out _ BA.out).mono ?_; rintro e wb ⟨rfl, hwb⟩; subst hwb)
        | (go_at_call 10; refine (ALw.out _ BA.out).mono ?_; rintro e wd ⟨vd, rfl, hnd, hbd⟩; have ND := Lib.hid hnd; have BD := Lib.hid (BA.out.trans (hbd.mono BA.out.size)); obtain ⟨Ad, md, cd, rfl⟩ := hnd.shape; clear hnd hbd)
        | (go_at_call 9; refine (sameI16 _ _ _ _ _ ND.out (N9.out.call BD.out) hal2 hal2).mono ?_; rintro e we ⟨rfl, hqe⟩; have BE := Lib.hid (BD.out.trans ((drB hqe wd.heap.size).mono BD.out.size)); rw [decide_eq_true rfl]; clear hqe)
        | (go_at_call 3; refine (trieRuns_any _).mono ?_; rintro e wf ⟨rfl, hbf⟩; have BF := Lib.hid (BE.out.trans (hbf.mono BE.out.size)); clear hbf))
      go_ret
      exact ⟨rfl, (L9.out.call BF.out).2.2.2.2.2.2⟩
end Go.Proofs.Ytgiepgbjkkhniaa
