/-
  url.Right.
-/
import Derived.Test.YtnnmbpghkflepaaDoorPat
namespace Go.Proofs.YtnnmbpghkflepaaDoor
open Go.RowKit Go.PlainAid
set_option maxRecDepth 100000

theorem isName47 (s : ByteArray) (w : World) : Calls Tryd.prog 42 #[.string s] w fun e w' => e = .returned (.bool (nameB s)) ∧ w' = w := by
  by_cases h1 : 1 ≤ s.size
  · by_cases h2 : s.size ≤ 64
    · have e : nameB s = true := decide_eq_true ⟨h1, h2⟩
      have c1 : (1 : Int) ≤ (s.size : Int) := by omega
      have c2 : (s.size : Int) ≤ 64 := by omega
      rw [e]
      go_enter Tryd.func42, Tryd.ntmps42
      go_wp2
      go_ret
      exact ⟨rfl, rfl⟩
    · have e : nameB s = false := decide_eq_false (fun h => h2 h.2)
      have c1 : (1 : Int) ≤ (s.size : Int) := by omega
      have c2 : ¬ (s.size : Int) ≤ 64 := by omega
      rw [e]
      go_enter Tryd.func42, Tryd.ntmps42
      go_wp2
      go_ret
      exact ⟨rfl, rfl⟩
  · have e : nameB s = false := decide_eq_false (fun h => h1 h.1)
    have c1 : ¬ (1 : Int) ≤ (s.size : Int) := by omega
    rw [e]
    go_enter Tryd.func42, Tryd.ntmps42
    go_wp2
    go_ret
    exact ⟨rfl, rfl⟩

set_option maxHeartbeats 1600000 in
theorem right28 (v1 v2 : Value) (p : List ByteArray) (q : List Pr) (w : World) (hp : Ss w v1 p) (hq : Ps w v2 q) :
    Calls Tryd.prog 28 #[.agg #[v1, v2]] w fun e w' => e = .returned (.bool (rightB p q)) ∧ Below w.heap.size w w' := by
  obtain ⟨A, cap, rfl, _, _, hc⟩ := hp
  obtain ⟨A2, cap2, rfl, _, _, hc2⟩ := hq
  have HC := Lib.hid hc
  have HC2 := Lib.hid hc2
  clear hc hc2
  by_cases h1 : p.length ≤ 8
  · by_cases h2 : q.length ≤ 8
    · have d1 : ¬ (8 : Int) < (p.length : Int) := by omega
      have d2 : ¬ (8 : Int) < (q.length : Int) := by omega
      have e0 : rightB p q = (p.all nameB && q.all pairB) := by rw [rightB, decide_eq_true ⟨h1, h2⟩]; rfl
      have E0 := Lib.hid e0
      clear e0
      go_enter Tryd.func28, Tryd.ntmps28
      go_wp2_with fail
      have HK := Lib.hid (blk_new w (.cells #[.slice A p.length cap, .slice A2 q.length cap2] 76 (0, 0)))
      have HB := Lib.hid ((Below.refl w.heap.size w).alloc (Nat.le_refl _) (.cells #[.slice A p.length cap, .slice A2 q.length cap2] 76 (0, 0)))
      generalize w.alloc (.cells #[.slice A p.length cap, .slice A2 q.length cap2] 76) = w5 at *
      obtain ⟨k0, k1, _, _⟩ := blk2 HK.out
      have hsz := HB.out.size
      go_loopw [20] (fun i wr => ∃ (k : Nat), k ≤ p.length ∧ i = .int .i64 k ∧ (p.take k).all nameB = true ∧ wr = w5) (fun i _ => p.length - (intOf i).toNat)
      case atStart => exact ⟨0, Nat.zero_le _, rfl, by simp, rfl⟩
      case round =>
        obtain ⟨k, hk, rfl, hall, hwq⟩ := hrel
        have hwq := hwq.symm
        subst hwq
        have HA := Lib.hid hall
        clear hall
        by_cases hlt : k < p.length
        · obtain ⟨b, o, rfl, hcell⟩ := HC.out k hlt
          have hcell' : w5.cell? ⟨b, o + k, none⟩ = some (.string (p.getD k default)) := by rw [HB.out.cell (World.block_lt_of_cell? _ _ hcell)]; exact hcell
          have c0 : (k : Int) < (p.length : Int) := by omega
          have HL := Lib.hid (all_next nameB p k hlt)
          have HQ := Lib.hid (all_not nameB p k hlt)
          clear hcell
          generalize p.getD k default = x at *
          by_cases hx : nameB x = true
          · go_wp2_with (first | (go_at_call 42; refine (isName47 _ _).mono ?_; rintro e w' ⟨rfl, rfl⟩; rw [hx]))
            go_roundw
            case rel => exact ⟨k + 1, by omega, by go_num, by rw [HL.out, HA.out, hx]; rfl, trivial⟩
            case measure => simp [intOf]; omega
          · have hx : nameB x = false := by simpa using hx
            have e1 : rightB p q = false := by rw [E0.out, HQ.out hx]; rfl
            have E1 := Lib.hid e1
            clear e1
            go_wp2_with (first | (go_at_call 42; refine (isName47 _ _).mono ?_; rintro e w' ⟨rfl, rfl⟩; rw [hx]))
            rw [E1.out]
            go_ret
            exact ⟨rfl, HB.out⟩
        · obtain rfl : k = p.length := by omega
          have ha : p.all nameB = true := by simpa using HA.out
          have e1 : rightB p q = q.all pairB := by rw [E0.out, ha]; rfl
          have E1 := Lib.hid e1
          clear e1 ha
          go_wp2_with fail
          go_loopw [31] (fun i w6 => ∃ (k : Nat), k ≤ q.length ∧ i = .int .i64 k ∧ (q.take k).all pairB = true ∧ Below w5.heap.size w5 w6) (fun i _ => q.length - (intOf i).toNat)
          case atStart => exact ⟨0, Nat.zero_le _, rfl, by simp, Below.refl _ _⟩
          case round =>
            obtain ⟨k, hk, rfl, hall, hB6⟩ := hrel
            have HA := Lib.hid hall
            have H6 := Lib.hid hB6
            clear hall hB6
            by_cases hlt : k < q.length
            · obtain ⟨b, o, rfl, hcell, hcelb⟩ := HC2.out k hlt
              have g1 : wr.cell? ⟨b, o + k * 2, none⟩ = some (.string (q.getD k default).1) := by
                have hl := World.block_lt_of_cell? _ _ hcell
                rw [H6.out.cell (show b < w5.heap.size by have : b < w.heap.size := hl; omega), HB.out.cell hl]; exact hcell
              have g2 : wr.cell? ⟨b, o + k * 2 + 1, none⟩ = some (.string (q.getD k default).2) := by
                have hl := World.block_lt_of_cell? _ _ hcelb
                rw [H6.out.cell (show b < w5.heap.size by have : b < w.heap.size := hl; omega), HB.out.cell hl]; exact hcelb
              have c0 : (k : Int) < (q.length : Int) := by omega
              have HL := Lib.hid (all_next pairB q k hlt)
              have HQ := Lib.hid (all_not pairB q k hlt)
              clear hcell hcelb
              generalize q.getD k default = x at *
              obtain ⟨x, y⟩ := x
              simp only at g1 g2
              have hsz6 := H6.out.size
              by_cases hx : nameB x = true
              · by_cases hy : y.size ≤ 64
                · have d3 : ¬ (64 : Int) < (y.size : Int) := by omega
                  have e2 : pairB (x, y) = true := by rw [pairB, hx, decide_eq_true hy]; rfl
                  have E2 := Lib.hid e2
                  clear e2
                  go_wp2_with (first | (go_at_call 42; refine (isName47 _ _).mono ?_; rintro e w' ⟨rfl, rfl⟩; rw [hx]))
                  go_roundw
                  case rel => exact ⟨k + 1, by omega, by go_num, by rw [HL.out, HA.out, E2.out]; rfl, H6.out.alloc (by omega) _⟩
                  case measure => simp [intOf]; omega
                · have d3 : (64 : Int) < (y.size : Int) := by omega
                  have e2 : rightB p q = false := by rw [E1.out, HQ.out (by rw [pairB, decide_eq_false hy]; simp)]
                  have E2 := Lib.hid e2
                  clear e2
                  go_wp2_with (first | (go_at_call 42; refine (isName47 _ _).mono ?_; rintro e w' ⟨rfl, rfl⟩; rw [hx]))
                  rw [E2.out]
                  go_ret
                  exact ⟨rfl, HB.out.trans ((H6.out.alloc (by omega) _).mono hsz)⟩
              · have hx : nameB x = false := by simpa using hx
                have e2 : rightB p q = false := by rw [E1.out, HQ.out (by rw [pairB, hx]; rfl)]
                have E2 := Lib.hid e2
                clear e2
                go_wp2_with (first | (go_at_call 42; refine (isName47 _ _).mono ?_; rintro e w' ⟨rfl, rfl⟩; rw [hx]))
                rw [E2.out]
                go_ret
                exact ⟨rfl, HB.out.trans ((H6.out.alloc (by omega) _).mono hsz)⟩
            · obtain rfl : k = q.length := by omega
              have ha : q.all pairB = true := by simpa using HA.out
              have e1 : rightB p q = true := by rw [E1.out, ha]
              have E2 := Lib.hid e1
              clear e1 ha
              go_wp2
              rw [E2.out]
              go_ret
              exact ⟨rfl, HB.out.trans (H6.out.mono hsz)⟩
    · have d1 : ¬ (8 : Int) < (p.length : Int) := by omega
      have d2 : (8 : Int) < (q.length : Int) := by omega
      have e0 : rightB p q = false := by rw [rightB, decide_eq_false (fun h => h2 h.2)]; rfl
      have E0 := Lib.hid e0
      clear e0
      go_enter Tryd.func28, Tryd.ntmps28
      go_wp2
      rw [E0.out]
      go_ret
      exact ⟨rfl, (Below.refl _ _).alloc (Nat.le_refl _) _⟩
  · have d1 : (8 : Int) < (p.length : Int) := by omega
    have e0 : rightB p q = false := by rw [rightB, decide_eq_false (fun h => h1 h.1)]; rfl
    have E0 := Lib.hid e0
    clear e0
    go_enter Tryd.func28, Tryd.ntmps28
    go_wp2
    rw [E0.out]
    go_ret
    exact ⟨rfl, (Below.refl _ _).alloc (Nat.le_refl _) _⟩
end Go.Proofs.YtnnmbpghkflepaaDoor
