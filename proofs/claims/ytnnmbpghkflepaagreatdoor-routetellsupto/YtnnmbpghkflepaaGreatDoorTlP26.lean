/-
  Put together: RefDec, RefSplit.
-/
import Derived.Test.YtnnmbpghkflepaaGreatDoorTlP12
namespace Go.Proofs.YtnnmbpghkflepaaGreatDoor
open Go.RowKit Go.PlainAid
set_option maxRecDepth 100000

theorem hx_yes {c : Int} (h : hd c = true) : hx c = hv c := by simp [hx, h]
theorem hx_no {c : Int} (h : hd c = false) : hx c = -1 := by simp [hx, h]

/-- the ways through a round -/
theorem rdc_cases (s : ByteArray) (k : Nat) (hk : k < s.size) :
    (pl (bt s k) = true ∧ decL ((bs s).drop k) = (decL ((bs s).drop (k + 1))).map (bt s k :: ·)) ∨
    (pl (bt s k) = false ∧ bt s k = 37 ∧ k + 3 ≤ s.size ∧ hx (bt s (k + 1)) = hv (bt s (k + 1)) ∧ hx (bt s (k + 2)) = hv (bt s (k + 2)) ∧ decL ((bs s).drop k) = (decL ((bs s).drop (k + 3))).map ((hv (bt s (k + 1)) * 16 + hv (bt s (k + 2))) :: ·)) ∨
    (pl (bt s k) = false ∧ decL ((bs s).drop k) = none ∧ (bt s k ≠ 37 ∨ (bt s k = 37 ∧ s.size ≤ k + 2) ∨ (bt s k = 37 ∧ k + 2 < s.size ∧ hx (bt s (k + 1)) = -1) ∨ (bt s k = 37 ∧ k + 2 < s.size ∧ hx (bt s (k + 1)) = hv (bt s (k + 1)) ∧ hx (bt s (k + 2)) = -1))) := by
  have hl := bs_len s
  by_cases hp : pl (bt s k) = true
  · have := dec_step1 (bs s) k (by omega) (by rw [bs_at]; exact hp)
    rw [bs_at] at this
    exact Or.inl ⟨hp, this⟩
  · have hp : pl (bt s k) = false := by simpa using hp
    by_cases h : bt s k = 37 ∧ k + 2 < s.size ∧ hd (bt s (k + 1)) = true ∧ hd (bt s (k + 2)) = true
    · have := dec_step3 (bs s) k (by omega) (by rw [bs_at]; exact hp) (by rw [bs_at]; exact h.1) (by rw [bs_at]; exact h.2.2.1) (by rw [bs_at]; exact h.2.2.2)
      rw [bs_at, bs_at] at this
      exact Or.inr (Or.inl ⟨hp, h.1, by omega, hx_yes h.2.2.1, hx_yes h.2.2.2, this⟩)
    · refine Or.inr (Or.inr ⟨hp, ?_, ?_⟩)
      · refine dec_step0 (bs s) k (by omega) (by rw [bs_at]; exact hp) ?_
        rw [bs_at, bs_at, bs_at, hl]
        exact h
      · by_cases h1 : bt s k = 37
        · by_cases h2 : k + 2 < s.size
          · by_cases h3 : hd (bt s (k + 1)) = true
            · have h4 : hd (bt s (k + 2)) = false := by
                cases e : hd (bt s (k + 2))
                · rfl
                · exact absurd ⟨h1, h2, h3, e⟩ h
              exact Or.inr (Or.inr (Or.inr ⟨h1, h2, hx_yes h3, hx_no h4⟩))
            · exact Or.inr (Or.inr (Or.inl ⟨h1, h2, hx_no (by simpa using h3)⟩))
          · exact Or.inr (Or.inl ⟨h1, by omega⟩)
        · exact Or.inl h1

theorem or64 (a b : Int) (a0 : 0 ≤ a) (a1 : a ≤ 15) (b0 : 0 ≤ b) (b1 : b ≤ 15) : bits BinOp.or IntKind.i64 (a * 16) b = a * 16 + b := by
  obtain ⟨m, rfl⟩ := Int.eq_ofNat_of_zero_le a0
  obtain ⟨n, rfl⟩ := Int.eq_ofNat_of_zero_le b0
  have key : ∀ m n : Fin 16, bits BinOp.or IntKind.i64 ((m.val : Int) * 16) (n.val : Int) = (m.val : Int) * 16 + (n.val : Int) := by decide +kernel
  exact key ⟨m, by omega⟩ ⟨n, by omega⟩

set_option maxHeartbeats 1600000 in
theorem decodeR (s : ByteArray) (w : World) (hs : s.size ≤ 100000000) : Calls Tryz.prog 59 #[.string s] w fun e w' => e = .returned (.tuple #[.string (decS s), .bool (decB s)]) ∧ Below w.heap.size w w' := by
  have gb := get_bt s
  go_enter Tryz.func59, Tryz.ntmps59
  go_wp2_with fail
  go_loopw [4, 5] (fun v i wr => ∃ (k : Nat) (pre : List Int), k ≤ s.size ∧ i = .int .i64 k ∧ Mid s k pre ∧ Own w.heap.size w v pre wr) (fun _ i _ => s.size - (intOf i).toNat)
  case atStart => exact ⟨0, [], Nat.zero_le _, rfl, mid_zero s, Own.nil w⟩
  case round =>
    obtain ⟨k, pre, hk, rfl, hmid, hown⟩ := hrel
    have HO := Lib.hid hown
    have HM := Lib.hid hmid
    clear hown hmid
    have eb : Hid (pre.length ≤ 1000000000) := by have := HM.out.2.1; show _ ≤ _; omega
    by_cases hlt : k < s.size
    · have c0 : (k : Int) < (s.size : Int) := by omega
      have b1 := bt_nonneg s (k + 1)
      have b2 := bt_le s (k + 1)
      have b3 := bt_nonneg s (k + 2)
      have b4 := bt_le s (k + 2)
      rcases rdc_cases s k hlt with ⟨hp, n3⟩ | ⟨hp, g1, g2, g3, g4, n3⟩ | ⟨hp, n3, hn⟩
      · have HM1 := Lib.hid (mid_step HM.out (m := 1) (by omega) (by omega) n3)
        go_wp2_with (first | (go_at_call 76; refine (plainR _ _).mono ?_; rintro e w' ⟨rfl, rfl⟩; first | rw [hp] | rw [pl37]) | (at_builtin; refine wpList_app _ rfl (.tmp 17) (.tmp 21) rfl w.heap.size w _ _ rfl (HO.out.alloc _) ?b1 wr.heap.size 1 1 [bt s k] rfl rfl (by omega) (heap_alloc_new _ _) ?_))
        case b1 => exact eb.out
        intro v1 w1 h1
        have H1 := Lib.hid h1
        clear h1
        go_wp2_with fail
        go_roundw
        case rel => exact ⟨k + 1, _, by omega, by go_num, HM1.out, H1.out⟩
        case measure => simp [intOf]; omega
      · have HM1 := Lib.hid (mid_step HM.out (m := 3) (by omega) g2 n3)
        have v1 := hv_bd (bt s (k + 1))
        have v2 := hv_bd (bt s (k + 2))
        generalize hv (bt s (k + 1)) = x at *
        generalize hv (bt s (k + 2)) = y at *
        obtain ⟨x0, x1⟩ := v1
        obtain ⟨y0, y1⟩ := v2
        have c2 : (k : Int) + 2 < (s.size : Int) := by omega
        go_wp2_with (first | (go_at_call 76; refine (plainR _ _).mono ?_; rintro e w' ⟨rfl, rfl⟩; first | rw [hp] | rw [pl37]) | (go_at_call 77; refine (hexR _ _ (by assumption) (by assumption)).mono ?_; rintro e w' ⟨rfl, rfl⟩))
        have o1 : bits BinOp.or IntKind.i64 (x * 16) y = x * 16 + y := or64 x y x0 x1 y0 y1
        have i1 : 0 ≤ (k : Int) + 1 ∧ (k : Int) + 1 < (s.size : Int) := by omega
        have i2 : 0 ≤ (k : Int) + 2 ∧ (k : Int) + 2 < (s.size : Int) := by omega
        have j1 : IntKind.i64.wrap ((k : Int) + 1) = (k : Int) + 1 := IntWalk.i64_in _ (by omega)
        have j2 : IntKind.i64.wrap ((k : Int) + 2) = (k : Int) + 2 := IntWalk.i64_in _ (by omega)
        have j3 : IntKind.i64.wrap (x * 16) = x * 16 := IntWalk.i64_in _ (by omega)
        have j4 : IntKind.u8.wrap (x * 16 + y) = x * 16 + y := by rw [IntKind.wrap_u8]; omega
        have j5 : ((k : Int) + 1).toNat = k + 1 := by omega
        have j6 : ((k : Int) + 2).toNat = k + 2 := by omega
        have i3 : (0 : Int) ≤ (k : Int) + 1 := by omega
        have i4 : (0 : Int) ≤ (k : Int) + 2 := by omega
        have i5 : (k : Int) + 1 < (s.size : Int) := by omega
        have o2 : (x * 16 + y) % 256 = x * 16 + y := by omega
        go_region_held3 (fun _ => True) (trivial) (first | (refine step_app _ (by rfl) (.tmp 51) (.tmp 65) rfl w.heap.size w _ _ rfl ((HO.out.alloc _).drew) eb.out wr.heap.size 1 1 [x * 16 + y] rfl rfl (by omega) (heap_alloc_new _ _) ?_; intro v1 w1 h1; have H1 := Lib.hid h1; clear h1) | (go_at_call 77; refine (hexR _ _ (by assumption) (by assumption)).mono ?_; rintro e w' ⟨rfl, rfl⟩))
        all_goals
          go_wp2_with fail
          go_roundw
          case rel => exact ⟨k + 3, _, g2, by go_num, HM1.out, H1.out⟩
          case measure => simp [intOf]; omega
      · obtain ⟨d1, d2⟩ := mid_none HM.out n3
        rcases hn with hn | ⟨h1, h2⟩ | ⟨h1, h2, h3⟩ | ⟨h1, h2, h3, h4⟩
        · go_wp2_with (first | (go_at_call 76; refine (plainR _ _).mono ?_; rintro e w' ⟨rfl, rfl⟩; first | rw [hp] | rw [pl37]))
          try rw [d1, d2]
          go_ret2
          exact ⟨rfl, HO.out.2.1⟩
        · have c2 : ¬ (k : Int) + 2 < (s.size : Int) := by omega
          go_wp2_with (first | (go_at_call 76; refine (plainR _ _).mono ?_; rintro e w' ⟨rfl, rfl⟩; first | rw [hp] | rw [pl37]))
          try rw [d1, d2]
          go_ret2
          exact ⟨rfl, HO.out.2.1⟩
        · have c2 : (k : Int) + 2 < (s.size : Int) := by omega
          go_wp2_with (first | (go_at_call 76; refine (plainR _ _).mono ?_; rintro e w' ⟨rfl, rfl⟩; first | rw [hp] | rw [pl37]) | (go_at_call 77; refine (hexR _ _ (by assumption) (by assumption)).mono ?_; rintro e w' ⟨rfl, rfl⟩))
          try rw [d1, d2]
          go_ret2
          exact ⟨rfl, HO.out.2.1⟩
        · have c2 : (k : Int) + 2 < (s.size : Int) := by omega
          have v1 := hv_bd (bt s (k + 1))
          generalize hv (bt s (k + 1)) = x at *
          obtain ⟨x0, x1⟩ := v1
          go_wp2_with (first | (go_at_call 76; refine (plainR _ _).mono ?_; rintro e w' ⟨rfl, rfl⟩; first | rw [hp] | rw [pl37]) | (go_at_call 77; refine (hexR _ _ (by assumption) (by assumption)).mono ?_; rintro e w' ⟨rfl, rfl⟩))
          try rw [d1, d2]
          go_ret2
          exact ⟨rfl, HO.out.2.1⟩
    · obtain rfl : k = s.size := by omega
      obtain ⟨d1, d2⟩ := mid_end HM.out
      have hcv := own_text HO.out
      go_wp2
      rw [d1, d2]
      go_ret2
      exact ⟨rfl, HO.out.2.1⟩
end Go.Proofs.YtnnmbpghkflepaaGreatDoor

namespace Go.Proofs.YtnnmbpghkflepaaGreatDoor
open Go.RowKit Go.PlainAid
set_option maxRecDepth 100000

set_option maxHeartbeats 1600000 in
theorem split33 (s : ByteArray) (m : Int) (w : World) (hs : s.size ≤ 100000000) :
    Calls Tryz.prog 58 #[.string s, .int .u8 m] w fun e w' => ∃ v, e = .returned v ∧ OwnS w.heap.size w v (spl m s) w' := by
  have gb := get_bt s
  go_enter Tryz.func58, Tryz.ntmps58
  go_wp2_with fail
  go_loopw [5, 6, 7] (fun v st i wr => ∃ (a k : Nat) (P : List ByteArray), st = .int .i64 a ∧ i = .int .i64 k ∧ ((k ≤ s.size ∧ SpMid s m a k P) ∨ (k = s.size + 1 ∧ P = spl m s)) ∧ OwnS w.heap.size w v P wr) (fun _ _ i _ => s.size + 1 - (intOf i).toNat)
  case atStart => exact ⟨0, 0, [], rfl, rfl, Or.inl ⟨by omega, spm_zero s m⟩, nilS _ _ _ (Below.refl _ _) (Nat.le_refl _)⟩
  case round =>
    obtain ⟨a, k, P, rfl, rfl, ⟨hk, hmid⟩ | ⟨hk, hP⟩, hown⟩ := hrel
    · have HO := Lib.hid hown
      have HM := Lib.hid hmid
      have hak : a ≤ k := hmid.1
      have eb : Hid (P.length ≤ 1000000000) := by have := hmid.2.2.1; show _ ≤ _; omega
      clear hown hmid
      have c1 : (a : Int) ≤ (k : Int) := by omega
      have c2 : (k : Int) ≤ (s.size : Int) := by omega
      by_cases hlt : k < s.size
      · have c0 : (k : Int) < (s.size : Int) := by omega
        have c3 : ¬ (k : Int) = (s.size : Int) := by omega
        have c4 : ((k : Int) == (s.size : Int)) = false := by simp; omega
        by_cases hm : bt s k = m
        · have q1 : (bt s k == m) = true := by simpa using hm
          have HM1 := Lib.hid (spm_mark HM.out hlt hm)
          go_wp2_with (first | (at_builtin; refine wpList_appS _ rfl (.tmp 25) (.tmp 30) rfl w.heap.size w _ _ rfl (HO.out.alloc _) ?b1 wr.heap.size 1 1 [s.extract a k] rfl rfl (by omega) (heap_alloc_new _ _) ?_))
          case b1 => exact eb.out
          intro v1 w1 h1 _ _
          have H1 := Lib.hid h1
          clear h1
          go_wp2_with fail
          go_roundw
          case rel => exact ⟨k + 1, k + 1, P ++ [s.extract a k], by go_num, by go_num, Or.inl ⟨by omega, HM1.out⟩, H1.out⟩
          case measure => simp [intOf]; omega
        · have q1 : (bt s k == m) = false := by simpa using hm
          have HM1 := Lib.hid (spm_skip HM.out hlt hm)
          go_wp2_with fail
          go_roundw
          case rel => exact ⟨a, k + 1, P, rfl, by go_num, Or.inl ⟨by omega, HM1.out⟩, HO.out⟩
          case measure => simp [intOf]; omega
      · obtain rfl : k = s.size := by omega
        have HE := Lib.hid (spm_end HM.out)
        go_wp2_with (first | (at_builtin; refine wpList_appS _ rfl (.tmp 25) (.tmp 30) rfl w.heap.size w _ _ rfl (HO.out.alloc _) ?b1 wr.heap.size 1 1 [s.extract a s.size] rfl rfl (by omega) (heap_alloc_new _ _) ?_))
        case b1 => exact eb.out
        intro v1 w1 h1 _ _
        have H1 := Lib.hid h1
        clear h1
        go_wp2_with fail
        go_roundw
        case rel => exact ⟨s.size + 1, s.size + 1, _, by go_num, by go_num, Or.inr ⟨rfl, HE.out.symm⟩, H1.out⟩
        case measure => simp [intOf]
    · subst hk
      have HO := Lib.hid hown
      have HP := Lib.hid hP
      clear hown hP
      have c0 : ¬ (s.size : Int) + 1 ≤ (s.size : Int) := by omega
      go_wp2
      go_ret
      exact ⟨_, rfl, by rw [← HP.out]; exact HO.out⟩

set_option maxHeartbeats 1600000 in
theorem right35 (v1 v2 : Value) (p : List ByteArray) (q : List Pr) (w : World) (hp : Ss w v1 p) (hq : Ps w v2 q) :
    Calls Tryz.prog 61 #[.agg #[v1, v2]] w fun e w' => e = .returned (.bool (rightB p q)) ∧ Below w.heap.size w w' := by
  obtain ⟨A, cap, rfl, _, _, hc⟩ := hp
  obtain ⟨A2, cap2, rfl, _, _, hc2⟩ := hq
  have HC := Lib.hid hc
  have HC2 := Lib.hid hc2
  clear hc hc2
  by_cases h1 : p.length ≤ 8
  · by_cases h2 : q.length ≤ 8
    · have d1 : ¬ (8 : Int) < (p.length : Int) := by omega
      have d2 : ¬ (8 : Int) < (q.length : Int) := by omega
      have e0 : rightB p q = (p.all nameB && q.all pairB) := by rw [rightB, decide_eq_true ⟨h1, h2⟩]; rfl
      have E0 := Lib.hid e0
      clear e0
      go_enter Tryz.func61, Tryz.ntmps61
      go_wp2_with fail
      have HK := Lib.hid (blk_new w (.cells #[.slice A p.length cap, .slice A2 q.length cap2] 33 (0, 0)))
      have HB := Lib.hid ((Below.refl w.heap.size w).alloc (Nat.le_refl _) (.cells #[.slice A p.length cap, .slice A2 q.length cap2] 33 (0, 0)))
      generalize w.alloc (.cells #[.slice A p.length cap, .slice A2 q.length cap2] 33) = w5 at *
      obtain ⟨k0, k1, _, _⟩ := blk2 HK.out
      have hsz := HB.out.size
      go_loopw [20] (fun i wr => ∃ (k : Nat), k ≤ p.length ∧ i = .int .i64 k ∧ (p.take k).all nameB = true ∧ wr = w5) (fun i _ => p.length - (intOf i).toNat)
      case atStart => exact ⟨0, Nat.zero_le _, rfl, by simp, rfl⟩
      case round =>
        obtain ⟨k, hk, rfl, hall, hwq⟩ := hrel
        have hwq := hwq.symm
        subst hwq
        have HA := Lib.hid hall
        clear hall
        by_cases hlt : k < p.length
        · obtain ⟨b, o, rfl, hcell⟩ := HC.out k hlt
          have hcell' : w5.cell? ⟨b, o + k, none⟩ = some (.string (p.getD k default)) := by rw [HB.out.cell (World.block_lt_of_cell? _ _ hcell)]; exact hcell
          have c0 : (k : Int) < (p.length : Int) := by omega
          have HL := Lib.hid (all_next nameB p k hlt)
          have HQ := Lib.hid (all_not nameB p k hlt)
          clear hcell
          generalize p.getD k default = x at *
          by_cases hx : nameB x = true
          · obtain ⟨y1, y2⟩ := of_decide_eq_true hx
            have y3 : ¬ (x.size : Int) < 1 := by omega
            have y4 : ¬ (64 : Int) < (x.size : Int) := by omega
            have HX := Lib.hid hx
            clear hx
            go_wp2_with fail
            go_roundw
            case rel => exact ⟨k + 1, by omega, by go_num, by rw [HL.out, HA.out, HX.out]; rfl, trivial⟩
            case measure => simp [intOf]; omega
          · have hx : nameB x = false := by simpa using hx
            have e1 : rightB p q = false := by rw [E0.out, HQ.out hx]; rfl
            have E1 := Lib.hid e1
            have hn := of_decide_eq_false hx
            clear e1 hx
            by_cases y1 : x.size < 1
            · have y3 : (x.size : Int) < 1 := by omega
              go_wp2
              rw [E1.out]
              go_ret
              exact ⟨rfl, HB.out⟩
            · have y3 : ¬ (x.size : Int) < 1 := by omega
              have y4 : (64 : Int) < (x.size : Int) := by omega
              go_wp2
              rw [E1.out]
              go_ret
              exact ⟨rfl, HB.out⟩
        · obtain rfl : k = p.length := by omega
          have ha : p.all nameB = true := by simpa using HA.out
          have e1 : rightB p q = q.all pairB := by rw [E0.out, ha]; rfl
          have E1 := Lib.hid e1
          clear e1 ha
          go_wp2_with fail
          go_loopw [36] (fun i w6 => ∃ (k : Nat), k ≤ q.length ∧ i = .int .i64 k ∧ (q.take k).all pairB = true ∧ Below w5.heap.size w5 w6) (fun i _ => q.length - (intOf i).toNat)
          case atStart => exact ⟨0, Nat.zero_le _, rfl, by simp, Below.refl _ _⟩
          case round =>
            obtain ⟨k, hk, rfl, hall, hB6⟩ := hrel
            have HA := Lib.hid hall
            have H6 := Lib.hid hB6
            clear hall hB6
            by_cases hlt : k < q.length
            · obtain ⟨b, o, rfl, hcell, hcelb⟩ := HC2.out k hlt
              have g1 : wr.cell? ⟨b, o + k * 2, none⟩ = some (.string (q.getD k default).1) := by
                have hl := World.block_lt_of_cell? _ _ hcell
                rw [H6.out.cell (show b < w5.heap.size by have : b < w.heap.size := hl; omega), HB.out.cell hl]; exact hcell
              have g2 : wr.cell? ⟨b, o + k * 2 + 1, none⟩ = some (.string (q.getD k default).2) := by
                have hl := World.block_lt_of_cell? _ _ hcelb
                rw [H6.out.cell (show b < w5.heap.size by have : b < w.heap.size := hl; omega), HB.out.cell hl]; exact hcelb
              have c0 : (k : Int) < (q.length : Int) := by omega
              have HL := Lib.hid (all_next pairB q k hlt)
              have HQ := Lib.hid (all_not pairB q k hlt)
              clear hcell hcelb
              generalize q.getD k default = x at *
              obtain ⟨x, y⟩ := x
              simp only at g1 g2
              have hsz6 := H6.out.size
              by_cases hx : nameB x = true
              · by_cases hy : y.size ≤ 64
                · have d3 : ¬ (64 : Int) < (y.size : Int) := by omega
                  have e2 : pairB (x, y) = true := by rw [pairB, hx, decide_eq_true hy]; rfl
                  have E2 := Lib.hid e2
                  clear e2
                  obtain ⟨y1, y2⟩ := of_decide_eq_true hx
                  have y3 : ¬ (x.size : Int) < 1 := by omega
                  have y4 : ¬ (64 : Int) < (x.size : Int) := by omega
                  clear hx
                  go_wp2_with fail
                  go_roundw
                  case rel => exact ⟨k + 1, by omega, by go_num, by rw [HL.out, HA.out, E2.out]; rfl, H6.out.alloc (by omega) _⟩
                  case measure => simp [intOf]; omega
                · have d3 : (64 : Int) < (y.size : Int) := by omega
                  have e2 : rightB p q = false := by rw [E1.out, HQ.out (by rw [pairB, decide_eq_false hy]; simp)]
                  have E2 := Lib.hid e2
                  clear e2
                  obtain ⟨y1, y2⟩ := of_decide_eq_true hx
                  have y3 : ¬ (x.size : Int) < 1 := by omega
                  have y4 : ¬ (64 : Int) < (x.size : Int) := by omega
                  clear hx
                  go_wp2
                  rw [E2.out]
                  go_ret
                  exact ⟨rfl, HB.out.trans ((H6.out.alloc (by omega) _).mono hsz)⟩
              · have hx : nameB x = false := by simpa using hx
                have e2 : rightB p q = false := by rw [E1.out, HQ.out (by rw [pairB, hx]; rfl)]
                have E2 := Lib.hid e2
                have hn := of_decide_eq_false hx
                clear e2 hx
                by_cases y1 : x.size < 1
                · have y3 : (x.size : Int) < 1 := by omega
                  go_wp2
                  rw [E2.out]
                  go_ret
                  exact ⟨rfl, HB.out.trans ((H6.out.alloc (by omega) _).mono hsz)⟩
                · have y3 : ¬ (x.size : Int) < 1 := by omega
                  have y4 : (64 : Int) < (x.size : Int) := by omega
                  go_wp2
                  rw [E2.out]
                  go_ret
                  exact ⟨rfl, HB.out.trans ((H6.out.alloc (by omega) _).mono hsz)⟩
            · obtain rfl : k = q.length := by omega
              have ha : q.all pairB = true := by simpa using HA.out
              have e1 : rightB p q = true := by rw [E1.out, ha]
              have E2 := Lib.hid e1
              clear e1 ha
              go_wp2
              rw [E2.out]
              go_ret
              exact ⟨rfl, HB.out.trans (H6.out.mono hsz)⟩
    · have d1 : ¬ (8 : Int) < (p.length : Int) := by omega
      have d2 : (8 : Int) < (q.length : Int) := by omega
      have e0 : rightB p q = false := by rw [rightB, decide_eq_false (fun h => h2 h.2)]; rfl
      have E0 := Lib.hid e0
      clear e0
      go_enter Tryz.func61, Tryz.ntmps61
      go_wp2
      rw [E0.out]
      go_ret
      exact ⟨rfl, (Below.refl _ _).alloc (Nat.le_refl _) _⟩
  · have d1 : (8 : Int) < (p.length : Int) := by omega
    have e0 : rightB p q = false := by rw [rightB, decide_eq_false (fun h => h1 h.1)]; rfl
    have E0 := Lib.hid e0
    clear e0
    go_enter Tryz.func61, Tryz.ntmps61
    go_wp2
    rw [E0.out]
    go_ret
    exact ⟨rfl, (Below.refl _ _).alloc (Nat.le_refl _) _⟩
end Go.Proofs.YtnnmbpghkflepaaGreatDoor
