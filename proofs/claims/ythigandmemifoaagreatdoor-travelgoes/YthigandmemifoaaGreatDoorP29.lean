/-
  Put together: RefSplit.
-/
import Derived.Test.YthigandmemifoaaGreatDoorP14
import Derived.Test.YthigandmemifoaaGreatDoorP28
namespace Go.Proofs.YthigandmemifoaaGreatDoor
open Go.RowKit Go.PlainAid
set_option maxRecDepth 100000

set_option maxHeartbeats 1600000 in
theorem split33 (s : ByteArray) (m : Int) (w : World) (hs : s.size ≤ 100000000) :
    Calls Tryz.prog 47 #[.string s, .int .u8 m] w fun e w' => ∃ v, e = .returned v ∧ OwnS w.heap.size w v (spl m s) w' := by
  have gb := get_bt s
  go_enter Tryz.func47, Tryz.ntmps47
  go_wp2_with fail
  go_loopw [5, 6, 7] (fun v st i wr => ∃ (a k : Nat) (P : List ByteArray), st = .int .i64 a ∧ i = .int .i64 k ∧ ((k ≤ s.size ∧ SpMid s m a k P) ∨ (k = s.size + 1 ∧ P = spl m s)) ∧ OwnS w.heap.size w v P wr) (fun _ _ i _ => s.size + 1 - (intOf i).toNat)
  case atStart => exact ⟨0, 0, [], rfl, rfl, Or.inl ⟨by omega, spm_zero s m⟩, nilS _ _ _ (Below.refl _ _) (Nat.le_refl _)⟩
  case round =>
    obtain ⟨a, k, P, rfl, rfl, ⟨hk, hmid⟩ | ⟨hk, hP⟩, hown⟩ := hrel
    · have HO := Lib.hid hown
      have HM := Lib.hid hmid
      have hak : a ≤ k := hmid.1
      have eb : Hid (P.length ≤ 1000000000) := by have := hmid.2.2.1; show _ ≤ _; omega
      clear hown hmid
      have c1 : (a : Int) ≤ (k : Int) := by omega
      have c2 : (k : Int) ≤ (s.size : Int) := by omega
      by_cases hlt : k < s.size
      · have c0 : (k : Int) < (s.size : Int) := by omega
        have c3 : ¬ (k : Int) = (s.size : Int) := by omega
        have c4 : ((k : Int) == (s.size : Int)) = false := by simp; omega
        by_cases hm : bt s k = m
        · have q1 : (bt s k == m) = true := by simpa using hm
          have HM1 := Lib.hid (spm_mark HM.out hlt hm)
          go_wp2_with (first | (at_builtin; refine wpList_appS _ rfl (.tmp 25) (.tmp 30) rfl w.heap.size w _ _ rfl (HO.out.alloc _) ?b1 wr.heap.size 1 1 [s.extract a k] rfl rfl (by omega) (heap_alloc_new _ _) ?_))
          case b1 => exact eb.out
          intro v1 w1 h1 _ _
          have H1 := Lib.hid h1
          clear h1
          go_wp2_with fail
          go_roundw
          case rel => exact ⟨k + 1, k + 1, P ++ [s.extract a k], by go_num, by go_num, Or.inl ⟨by omega, HM1.out⟩, H1.out⟩
          case measure => simp [intOf]; omega
        · have q1 : (bt s k == m) = false := by simpa using hm
          have HM1 := Lib.hid (spm_skip HM.out hlt hm)
          go_wp2_with fail
          go_roundw
          case rel => exact ⟨a, k + 1, P, rfl, by go_num, Or.inl ⟨by omega, HM1.out⟩, HO.out⟩
          case measure => simp [intOf]; omega
      · obtain rfl : k = s.size := by omega
        have HE := Lib.hid (spm_end HM.out)
        go_wp2_with (first | (at_builtin; refine wpList_appS _ rfl (.tmp 25) (.tmp 30) rfl w.heap.size w _ _ rfl (HO.out.alloc _) ?b1 wr.heap.size 1 1 [s.extract a s.size] rfl rfl (by omega) (heap_alloc_new _ _) ?_))
        case b1 => exact eb.out
        intro v1 w1 h1 _ _
        have H1 := Lib.hid h1
        clear h1
        go_wp2_with fail
        go_roundw
        case rel => exact ⟨s.size + 1, s.size + 1, _, by go_num, by go_num, Or.inr ⟨rfl, HE.out.symm⟩, H1.out⟩
        case measure => simp [intOf]
    · subst hk
      have HO := Lib.hid hown
      have HP := Lib.hid hP
      clear hown hP
      have c0 : ¬ (s.size : Int) + 1 ≤ (s.size : Int) := by omega
      go_wp2
      go_ret
      exact ⟨_, rfl, by rw [← HP.out]; exact HO.out⟩

set_option maxHeartbeats 1600000 in
theorem right35 (v1 v2 : Value) (p : List ByteArray) (q : List Pr) (w : World) (hp : Ss w v1 p) (hq : Ps w v2 q) :
    Calls Tryz.prog 49 #[.agg #[v1, v2]] w fun e w' => e = .returned (.bool (rightB p q)) ∧ Below w.heap.size w w' := by
  obtain ⟨A, cap, rfl, _, _, hc⟩ := hp
  obtain ⟨A2, cap2, rfl, _, _, hc2⟩ := hq
  have HC := Lib.hid hc
  have HC2 := Lib.hid hc2
  clear hc hc2
  by_cases h1 : p.length ≤ 8
  · by_cases h2 : q.length ≤ 8
    · have d1 : ¬ (8 : Int) < (p.length : Int) := by omega
      have d2 : ¬ (8 : Int) < (q.length : Int) := by omega
      have e0 : rightB p q = (p.all nameB && q.all pairB) := by rw [rightB, decide_eq_true ⟨h1, h2⟩]; rfl
      have E0 := Lib.hid e0
      clear e0
      go_enter Tryz.func49, Tryz.ntmps49
      go_wp2_with fail
      have HK := Lib.hid (blk_new w (.cells #[.slice A p.length cap, .slice A2 q.length cap2] 33 (0, 0)))
      have HB := Lib.hid ((Below.refl w.heap.size w).alloc (Nat.le_refl _) (.cells #[.slice A p.length cap, .slice A2 q.length cap2] 33 (0, 0)))
      generalize w.alloc (.cells #[.slice A p.length cap, .slice A2 q.length cap2] 33) = w5 at *
      obtain ⟨k0, k1, _, _⟩ := blk2 HK.out
      have hsz := HB.out.size
      go_loopw [20] (fun i wr => ∃ (k : Nat), k ≤ p.length ∧ i = .int .i64 k ∧ (p.take k).all nameB = true ∧ wr = w5) (fun i _ => p.length - (intOf i).toNat)
      case atStart => exact ⟨0, Nat.zero_le _, rfl, by simp, rfl⟩
      case round =>
        obtain ⟨k, hk, rfl, hall, hwq⟩ := hrel
        have hwq := hwq.symm
        subst hwq
        have HA := Lib.hid hall
        clear hall
        by_cases hlt : k < p.length
        · obtain ⟨b, o, rfl, hcell⟩ := HC.out k hlt
          have hcell' : w5.cell? ⟨b, o + k, none⟩ = some (.string (p.getD k default)) := by rw [HB.out.cell (World.block_lt_of_cell? _ _ hcell)]; exact hcell
          have c0 : (k : Int) < (p.length : Int) := by omega
          have HL := Lib.hid (all_next nameB p k hlt)
          have HQ := Lib.hid (all_not nameB p k hlt)
          clear hcell
          generalize p.getD k default = x at *
          by_cases hx : nameB x = true
          · obtain ⟨y1, y2⟩ := of_decide_eq_true hx
            have y3 : ¬ (x.size : Int) < 1 := by omega
            have y4 : ¬ (64 : Int) < (x.size : Int) := by omega
            have HX := Lib.hid hx
            clear hx
            go_wp2_with fail
            go_roundw
            case rel => exact ⟨k + 1, by omega, by go_num, by rw [HL.out, HA.out, HX.out]; rfl, trivial⟩
            case measure => simp [intOf]; omega
          · have hx : nameB x = false := by simpa using hx
            have e1 : rightB p q = false := by rw [E0.out, HQ.out hx]; rfl
            have E1 := Lib.hid e1
            have hn := of_decide_eq_false hx
            clear e1 hx
            by_cases y1 : x.size < 1
            · have y3 : (x.size : Int) < 1 := by omega
              go_wp2
              rw [E1.out]
              go_ret
              exact ⟨rfl, HB.out⟩
            · have y3 : ¬ (x.size : Int) < 1 := by omega
              have y4 : (64 : Int) < (x.size : Int) := by omega
              go_wp2
              rw [E1.out]
              go_ret
              exact ⟨rfl, HB.out⟩
        · obtain rfl : k = p.length := by omega
          have ha : p.all nameB = true := by simpa using HA.out
          have e1 : rightB p q = q.all pairB := by rw [E0.out, ha]; rfl
          have E1 := Lib.hid e1
          clear e1 ha
          go_wp2_with fail
          go_loopw [36] (fun i w6 => ∃ (k : Nat), k ≤ q.length ∧ i = .int .i64 k ∧ (q.take k).all pairB = true ∧ Below w5.heap.size w5 w6) (fun i _ => q.length - (intOf i).toNat)
          case atStart => exact ⟨0, Nat.zero_le _, rfl, by simp, Below.refl _ _⟩
          case round =>
            obtain ⟨k, hk, rfl, hall, hB6⟩ := hrel
            have HA := Lib.hid hall
            have H6 := Lib.hid hB6
            clear hall hB6
            by_cases hlt : k < q.length
            · obtain ⟨b, o, rfl, hcell, hcelb⟩ := HC2.out k hlt
              have g1 : wr.cell? ⟨b, o + k * 2, none⟩ = some (.string (q.getD k default).1) := by
                have hl := World.block_lt_of_cell? _ _ hcell
                rw [H6.out.cell (show b < w5.heap.size by have : b < w.heap.size := hl; omega), HB.out.cell hl]; exact hcell
              have g2 : wr.cell? ⟨b, o + k * 2 + 1, none⟩ = some (.string (q.getD k default).2) := by
                have hl := World.block_lt_of_cell? _ _ hcelb
                rw [H6.out.cell (show b < w5.heap.size by have : b < w.heap.size := hl; omega), HB.out.cell hl]; exact hcelb
              have c0 : (k : Int) < (q.length : Int) := by omega
              have HL := Lib.hid (all_next pairB q k hlt)
              have HQ := Lib.hid (all_not pairB q k hlt)
              clear hcell hcelb
              generalize q.getD k default = x at *
              obtain ⟨x, y⟩ := x
              simp only at g1 g2
              have hsz6 := H6.out.size
              by_cases hx : nameB x = true
              · by_cases hy : y.size ≤ 64
                · have d3 : ¬ (64 : Int) < (y.size : Int) := by omega
                  have e2 : pairB (x, y) = true := by rw [pairB, hx, decide_eq_true hy]; rfl
                  have E2 := Lib.hid e2
                  clear e2
                  obtain ⟨y1, y2⟩ := of_decide_eq_true hx
                  have y3 : ¬ (x.size : Int) < 1 := by omega
                  have y4 : ¬ (64 : Int) < (x.size : Int) := by omega
                  clear hx
                  go_wp2_with fail
                  go_roundw
                  case rel => exact ⟨k + 1, by omega, by go_num, by rw [HL.out, HA.out, E2.out]; rfl, H6.out.alloc (by omega) _⟩
                  case measure => simp [intOf]; omega
                · have d3 : (64 : Int) < (y.size : Int) := by omega
                  have e2 : rightB p q = false := by rw [E1.out, HQ.out (by rw [pairB, decide_eq_false hy]; simp)]
                  have E2 := Lib.hid e2
                  clear e2
                  obtain ⟨y1, y2⟩ := of_decide_eq_true hx
                  have y3 : ¬ (x.size : Int) < 1 := by omega
                  have y4 : ¬ (64 : Int) < (x.size : Int) := by omega
                  clear hx
                  go_wp2
                  rw [E2.out]
                  go_ret
                  exact ⟨rfl, HB.out.trans ((H6.out.alloc (by omega) _).mono hsz)⟩
              · have hx : nameB x = false := by simpa using hx
                have e2 : rightB p q = false := by rw [E1.out, HQ.out (by rw [pairB, hx]; rfl)]
                have E2 := Lib.hid e2
                have hn := of_decide_eq_false hx
                clear e2 hx
                by_cases y1 : x.size < 1
                · have y3 : (x.size : Int) < 1 := by omega
                  go_wp2
                  rw [E2.out]
                  go_ret
                  exact ⟨rfl, HB.out.trans ((H6.out.alloc (by omega) _).mono hsz)⟩
                · have y3 : ¬ (x.size : Int) < 1 := by omega
                  have y4 : (64 : Int) < (x.size : Int) := by omega
                  go_wp2
                  rw [E2.out]
                  go_ret
                  exact ⟨rfl, HB.out.trans ((H6.out.alloc (by omega) _).mono hsz)⟩
            · obtain rfl : k = q.length := by omega
              have ha : q.all pairB = true := by simpa using HA.out
              have e1 : rightB p q = true := by rw [E1.out, ha]
              have E2 := Lib.hid e1
              clear e1 ha
              go_wp2
              rw [E2.out]
              go_ret
              exact ⟨rfl, HB.out.trans (H6.out.mono hsz)⟩
    · have d1 : ¬ (8 : Int) < (p.length : Int) := by omega
      have d2 : (8 : Int) < (q.length : Int) := by omega
      have e0 : rightB p q = false := by rw [rightB, decide_eq_false (fun h => h2 h.2)]; rfl
      have E0 := Lib.hid e0
      clear e0
      go_enter Tryz.func49, Tryz.ntmps49
      go_wp2
      rw [E0.out]
      go_ret
      exact ⟨rfl, (Below.refl _ _).alloc (Nat.le_refl _) _⟩
  · have d1 : (8 : Int) < (p.length : Int) := by omega
    have e0 : rightB p q = false := by rw [rightB, decide_eq_false (fun h => h1 h.1)]; rfl
    have E0 := Lib.hid e0
    clear e0
    go_enter Tryz.func49, Tryz.ntmps49
    go_wp2
    rw [E0.out]
    go_ret
    exact ⟨rfl, (Below.refl _ _).alloc (Nat.le_refl _) _⟩
end Go.Proofs.YthigandmemifoaaGreatDoor
