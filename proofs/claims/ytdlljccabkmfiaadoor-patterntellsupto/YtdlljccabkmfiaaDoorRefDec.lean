/-
  The reference's Decode.
-/
import Derived.Test.YtdlljccabkmfiaaDoorDec
namespace Go.Proofs.YtdlljccabkmfiaaDoor
open Go.RowKit Go.PlainAid

theorem hx_yes {c : Int} (h : hd c = true) : hx c = hv c := by simp [hx, h]
theorem hx_no {c : Int} (h : hd c = false) : hx c = -1 := by simp [hx, h]

/-- the ways through a round -/
theorem rdc_cases (s : ByteArray) (k : Nat) (hk : k < s.size) :
    (pl (bt s k) = true ∧ decL ((bs s).drop k) = (decL ((bs s).drop (k + 1))).map (bt s k :: ·)) ∨
    (pl (bt s k) = false ∧ bt s k = 37 ∧ k + 3 ≤ s.size ∧ hx (bt s (k + 1)) = hv (bt s (k + 1)) ∧ hx (bt s (k + 2)) = hv (bt s (k + 2)) ∧ decL ((bs s).drop k) = (decL ((bs s).drop (k + 3))).map ((hv (bt s (k + 1)) * 16 + hv (bt s (k + 2))) :: ·)) ∨
    (pl (bt s k) = false ∧ decL ((bs s).drop k) = none ∧ (bt s k ≠ 37 ∨ (bt s k = 37 ∧ s.size ≤ k + 2) ∨ (bt s k = 37 ∧ k + 2 < s.size ∧ hx (bt s (k + 1)) = -1) ∨ (bt s k = 37 ∧ k + 2 < s.size ∧ hx (bt s (k + 1)) = hv (bt s (k + 1)) ∧ hx (bt s (k + 2)) = -1))) := by
  have hl := bs_len s
  by_cases hp : pl (bt s k) = true
  · have := dec_step1 (bs s) k (by omega) (by rw [bs_at]; exact hp)
    rw [bs_at] at this
    exact Or.inl ⟨hp, this⟩
  · have hp : pl (bt s k) = false := by simpa using hp
    by_cases h : bt s k = 37 ∧ k + 2 < s.size ∧ hd (bt s (k + 1)) = true ∧ hd (bt s (k + 2)) = true
    · have := dec_step3 (bs s) k (by omega) (by rw [bs_at]; exact hp) (by rw [bs_at]; exact h.1) (by rw [bs_at]; exact h.2.2.1) (by rw [bs_at]; exact h.2.2.2)
      rw [bs_at, bs_at] at this
      exact Or.inr (Or.inl ⟨hp, h.1, by omega, hx_yes h.2.2.1, hx_yes h.2.2.2, this⟩)
    · refine Or.inr (Or.inr ⟨hp, ?_, ?_⟩)
      · refine dec_step0 (bs s) k (by omega) (by rw [bs_at]; exact hp) ?_
        rw [bs_at, bs_at, bs_at, hl]
        exact h
      · by_cases h1 : bt s k = 37
        · by_cases h2 : k + 2 < s.size
          · by_cases h3 : hd (bt s (k + 1)) = true
            · have h4 : hd (bt s (k + 2)) = false := by
                cases e : hd (bt s (k + 2))
                · rfl
                · exact absurd ⟨h1, h2, h3, e⟩ h
              exact Or.inr (Or.inr (Or.inr ⟨h1, h2, hx_yes h3, hx_no h4⟩))
            · exact Or.inr (Or.inr (Or.inl ⟨h1, h2, hx_no (by simpa using h3)⟩))
          · exact Or.inr (Or.inl ⟨h1, by omega⟩)
        · exact Or.inl h1

theorem or64 (a b : Int) (a0 : 0 ≤ a) (a1 : a ≤ 15) (b0 : 0 ≤ b) (b1 : b ≤ 15) : bits BinOp.or IntKind.i64 (a * 16) b = a * 16 + b := by
  obtain ⟨m, rfl⟩ := Int.eq_ofNat_of_zero_le a0
  obtain ⟨n, rfl⟩ := Int.eq_ofNat_of_zero_le b0
  have key : ∀ m n : Fin 16, bits BinOp.or IntKind.i64 ((m.val : Int) * 16) (n.val : Int) = (m.val : Int) * 16 + (n.val : Int) := by decide +kernel
  exact key ⟨m, by omega⟩ ⟨n, by omega⟩

set_option maxHeartbeats 1600000 in
theorem decodeR (s : ByteArray) (w : World) (hs : s.size ≤ 100000000) : Calls Tryd.prog 34 #[.string s] w fun e w' => e = .returned (.tuple #[.string (decS s), .bool (decB s)]) ∧ Below w.heap.size w w' := by
  have gb := get_bt s
  go_enter Tryd.func34, Tryd.ntmps34
  go_wp2_with fail
  go_loopw [4, 5] (fun v i wr => ∃ (k : Nat) (pre : List Int), k ≤ s.size ∧ i = .int .i64 k ∧ Mid s k pre ∧ Own w.heap.size w v pre wr) (fun _ i _ => s.size - (intOf i).toNat)
  case atStart => exact ⟨0, [], Nat.zero_le _, rfl, mid_zero s, Own.nil w⟩
  case round =>
    obtain ⟨k, pre, hk, rfl, hmid, hown⟩ := hrel
    have HO := Lib.hid hown
    have HM := Lib.hid hmid
    clear hown hmid
    have eb : Hid (pre.length ≤ 1000000000) := by have := HM.out.2.1; show _ ≤ _; omega
    by_cases hlt : k < s.size
    · have c0 : (k : Int) < (s.size : Int) := by omega
      have b1 := bt_nonneg s (k + 1)
      have b2 := bt_le s (k + 1)
      have b3 := bt_nonneg s (k + 2)
      have b4 := bt_le s (k + 2)
      rcases rdc_cases s k hlt with ⟨hp, n3⟩ | ⟨hp, g1, g2, g3, g4, n3⟩ | ⟨hp, n3, hn⟩
      · have HM1 := Lib.hid (mid_step HM.out (m := 1) (by omega) (by omega) n3)
        go_wp2_with (first | (go_at_call 49; refine (plainR _ _).mono ?_; rintro e w' ⟨rfl, rfl⟩; first | rw [hp] | rw [pl37]) | (at_builtin; refine wpList_app _ rfl (.tmp 17) (.tmp 21) rfl w.heap.size w _ _ rfl (HO.out.alloc _) ?b1 wr.heap.size 1 1 [bt s k] rfl rfl (by omega) (heap_alloc_new _ _) ?_))
        case b1 => exact eb.out
        intro v1 w1 h1
        have H1 := Lib.hid h1
        clear h1
        go_wp2_with fail
        go_roundw
        case rel => exact ⟨k + 1, _, by omega, by go_num, HM1.out, H1.out⟩
        case measure => simp [intOf]; omega
      · have HM1 := Lib.hid (mid_step HM.out (m := 3) (by omega) g2 n3)
        have v1 := hv_bd (bt s (k + 1))
        have v2 := hv_bd (bt s (k + 2))
        generalize hv (bt s (k + 1)) = x at *
        generalize hv (bt s (k + 2)) = y at *
        obtain ⟨x0, x1⟩ := v1
        obtain ⟨y0, y1⟩ := v2
        have c2 : (k : Int) + 2 < (s.size : Int) := by omega
        go_wp2_with (first | (go_at_call 49; refine (plainR _ _).mono ?_; rintro e w' ⟨rfl, rfl⟩; first | rw [hp] | rw [pl37]) | (go_at_call 50; refine (hexR _ _ (by assumption) (by assumption)).mono ?_; rintro e w' ⟨rfl, rfl⟩))
        have o1 : bits BinOp.or IntKind.i64 (x * 16) y = x * 16 + y := or64 x y x0 x1 y0 y1
        have i1 : 0 ≤ (k : Int) + 1 ∧ (k : Int) + 1 < (s.size : Int) := by omega
        have i2 : 0 ≤ (k : Int) + 2 ∧ (k : Int) + 2 < (s.size : Int) := by omega
        have j1 : IntKind.i64.wrap ((k : Int) + 1) = (k : Int) + 1 := IntWalk.i64_in _ (by omega)
        have j2 : IntKind.i64.wrap ((k : Int) + 2) = (k : Int) + 2 := IntWalk.i64_in _ (by omega)
        have j3 : IntKind.i64.wrap (x * 16) = x * 16 := IntWalk.i64_in _ (by omega)
        have j4 : IntKind.u8.wrap (x * 16 + y) = x * 16 + y := by rw [IntKind.wrap_u8]; omega
        have j5 : ((k : Int) + 1).toNat = k + 1 := by omega
        have j6 : ((k : Int) + 2).toNat = k + 2 := by omega
        have i3 : (0 : Int) ≤ (k : Int) + 1 := by omega
        have i4 : (0 : Int) ≤ (k : Int) + 2 := by omega
        have i5 : (k : Int) + 1 < (s.size : Int) := by omega
        have o2 : (x * 16 + y) % 256 = x * 16 + y := by omega
        go_region_held3 (fun _ => True) (trivial) (first | (refine step_app _ (by rfl) (.tmp 51) (.tmp 65) rfl w.heap.size w _ _ rfl ((HO.out.alloc _).drew) eb.out wr.heap.size 1 1 [x * 16 + y] rfl rfl (by omega) (heap_alloc_new _ _) ?_; intro v1 w1 h1; have H1 := Lib.hid h1; clear h1) | (go_at_call 50; refine (hexR _ _ (by assumption) (by assumption)).mono ?_; rintro e w' ⟨rfl, rfl⟩))
        all_goals
          go_wp2_with fail
          go_roundw
          case rel => exact ⟨k + 3, _, g2, by go_num, HM1.out, H1.out⟩
          case measure => simp [intOf]; omega
      · obtain ⟨d1, d2⟩ := mid_none HM.out n3
        rcases hn with hn | ⟨h1, h2⟩ | ⟨h1, h2, h3⟩ | ⟨h1, h2, h3, h4⟩
        · go_wp2_with (first | (go_at_call 49; refine (plainR _ _).mono ?_; rintro e w' ⟨rfl, rfl⟩; first | rw [hp] | rw [pl37]))
          try rw [d1, d2]
          go_ret2
          exact ⟨rfl, HO.out.2.1⟩
        · have c2 : ¬ (k : Int) + 2 < (s.size : Int) := by omega
          go_wp2_with (first | (go_at_call 49; refine (plainR _ _).mono ?_; rintro e w' ⟨rfl, rfl⟩; first | rw [hp] | rw [pl37]))
          try rw [d1, d2]
          go_ret2
          exact ⟨rfl, HO.out.2.1⟩
        · have c2 : (k : Int) + 2 < (s.size : Int) := by omega
          go_wp2_with (first | (go_at_call 49; refine (plainR _ _).mono ?_; rintro e w' ⟨rfl, rfl⟩; first | rw [hp] | rw [pl37]) | (go_at_call 50; refine (hexR _ _ (by assumption) (by assumption)).mono ?_; rintro e w' ⟨rfl, rfl⟩))
          try rw [d1, d2]
          go_ret2
          exact ⟨rfl, HO.out.2.1⟩
        · have c2 : (k : Int) + 2 < (s.size : Int) := by omega
          have v1 := hv_bd (bt s (k + 1))
          generalize hv (bt s (k + 1)) = x at *
          obtain ⟨x0, x1⟩ := v1
          go_wp2_with (first | (go_at_call 49; refine (plainR _ _).mono ?_; rintro e w' ⟨rfl, rfl⟩; first | rw [hp] | rw [pl37]) | (go_at_call 50; refine (hexR _ _ (by assumption) (by assumption)).mono ?_; rintro e w' ⟨rfl, rfl⟩))
          try rw [d1, d2]
          go_ret2
          exact ⟨rfl, HO.out.2.1⟩
    · obtain rfl : k = s.size := by omega
      obtain ⟨d1, d2⟩ := mid_end HM.out
      have hcv := own_text HO.out
      go_wp2
      rw [d1, d2]
      go_ret2
      exact ⟨rfl, HO.out.2.1⟩
end Go.Proofs.YtdlljccabkmfiaaDoor
