/-
  The law TrapMany, walked: all checks pass; one of them doesn't.
-/
import Derived.Test.YtnbkgpkgfolakaaAsk
namespace Go.Proofs.Ytnbkgpkgfolakaa
open Go.RowKit

theorem BoolsAt.far {ao : Option Addr} {len : Nat} {f : Nat → Bool} {w : World} (h : BoolsAt ao len f w) {n : Nat} (hn : w.heap.size ≤ n) : ∀ b off, 0 < len → ao = some ⟨b, off, none⟩ → b ≠ n := by
  intro b off h0 e
  obtain ⟨b', off', e', hc⟩ := h h0
  rw [e] at e'
  cases e'
  have := (hc 0 h0).2
  omega

/-- what the law has made ahead of its own loop: the three variables and the fault -/
structure Made (O N Ask X : Nat) (ao : Option Addr) (len cap : Nat) (cut : ByteArray) (f : Nat → Bool) (a : Int) (x y z : Value) (W w : World) : Prop where
  o : w.cell? ⟨O, 0, none⟩ = some (.slice ao len cap)
  n : w.cell? ⟨N, 0, none⟩ = some (.string cut)
  a : w.cell? ⟨Ask, 0, none⟩ = some (.int .i64 a)
  x0 : w.cell? ⟨X, 0, none⟩ = some x
  x1 : w.cell? ⟨X, 1, none⟩ = some y
  x2 : w.cell? ⟨X, 2, none⟩ = some z
  b : BoolsAt ao len f w
  below : Below W.heap.size W w

theorem made_of {ao : Option Addr} {len cap : Nat} {cut : ByteArray} {f : Nat → Bool} {a : Int} {x y z : Value} {w w1 : World} (hb : BoolsAt ao len f w)
    (h1 : w1.heap[w.heap.size + 1 + 1]? = some (.cells #[.int .i64 a] 3 (0, 0)))
    (hk : Kp (fun k => k = w.heap.size + 1 + 1) (((w.alloc (.cells #[.slice ao len cap] 36)).alloc (.cells #[.string cut] 9)).alloc (.cells #[.int .i64 0] 3)) w1) :
    Made w.heap.size (w.heap.size + 1) (w.heap.size + 1 + 1) w1.heap.size ao len cap cut f a x y z w (w1.alloc (.cells #[x, y, z] 24)) := by
  have hs := hk.size
  simp at hs
  have k0 : Kp (fun _ => False) w (((w.alloc (.cells #[.slice ao len cap] 36)).alloc (.cells #[.string cut] 9)).alloc (.cells #[.int .i64 0] 3)) := (((Kp.refl _ w).alloc _).alloc _).alloc _
  have kk : Kp (fun k => k = w.heap.size + 1 + 1) w (w1.alloc (.cells #[x, y, z] 24)) := ((k0.mono (fun _ _ t => t.elim)).trans hk (fun _ _ t => t)).alloc _
  have bo : w1.heap[w.heap.size]? = some (.cells #[.slice ao len cap] 36 (0, 0)) := (hk.block w.heap.size (by simp; omega) (by omega)).trans (blk_alloc (blk_alloc (blk_new w _) _) _)
  have bn : w1.heap[w.heap.size + 1]? = some (.cells #[.string cut] 9 (0, 0)) := by
    refine (hk.block (w.heap.size + 1) (by simp) (by omega)).trans ?_
    have := blk_alloc (blk_new (w.alloc (.cells #[.slice ao len cap] 36)) (.cells #[.string cut] 9)) (.cells #[.int .i64 0] 3)
    rwa [show (w.alloc (.cells #[.slice ao len cap] 36)).heap.size = w.heap.size + 1 from by simp] at this
  have bx := blk_new w1 (.cells #[x, y, z] 24)
  exact ⟨blk_cell (blk_alloc bo _) 0, blk_cell (blk_alloc bn _) 0, blk_cell (blk_alloc h1 _) 0, blk_cell bx 0, blk_cell bx 1, blk_cell bx 2, hb.kp kk (fun b off h0 e => hb.far (by omega) b off h0 e), kk.below (Nat.le_refl _) (fun k hk t => by omega)⟩

set_option maxHeartbeats 1000000 in
set_option maxRecDepth 100000 in
theorem many_ret (ao : Option Addr) (len cap k p : Nat) (note cut : ByteArray) (f : Nat → Bool) (w : World)
    (hif : (if (9 : Int) < (note.size : Int) then (9 : Int) else (note.size : Int)) = (k : Int)) (hk0 : (0 : Int) ≤ (k : Int)) (hk1 : (k : Int) ≤ (note.size : Int))
    (hcut : Hid (note.extract 0 k = cut)) (hb : BoolsAt ao len f w) (hp : p = min len 20) (hf : ∀ j, j < p → f j = true) (hm : (if (20 : Int) < (len : Int) then (20 : Int) else (len : Int)) = (p : Int)) :
    Calls Try.prog 6 #[.slice ao len cap, .string note] w fun e w' => e = .returned (.bool true) ∧ Below w.heap.size w w' := by
  have HB := Lib.hid hb
  have HF := Lib.hid hf
  have HP := Lib.hid hp
  clear hb hf hp
  go_enter Try.func6, Try.ntmps6
  go_wp2_with fail
  rw [hcut.out]
  have k0 : Kp (fun _ => False) w (((w.alloc (.cells #[.slice ao len cap] 36)).alloc (.cells #[.string cut] 9)).alloc (.cells #[.int .i64 0] 3)) := (((Kp.refl _ w).alloc _).alloc _).alloc _
  have bo := blk_alloc (blk_alloc (blk_new w (.cells #[.slice ao len cap] 36)) (.cells #[.string cut] 9)) (.cells #[.int .i64 0] 3)
  have bn := blk_alloc (blk_new (w.alloc (.cells #[.slice ao len cap] 36)) (.cells #[.string cut] 9)) (.cells #[.int .i64 0] 3)
  have ba := blk_new ((w.alloc (.cells #[.slice ao len cap] 36)).alloc (.cells #[.string cut] 9)) (.cells #[.int .i64 0] 3)
  simp only [World.size_alloc] at bn ba
  refine (run20 w.heap.size (w.heap.size + 1 + 1) (w.heap.size + 1) len cap p ao f cut _ bo ba bn (HB.out.kp k0 (fun _ _ _ _ t => t)) (by omega) (by omega) (HB.out.far (by omega)) HP.out HF.out).mono ?_
  rintro e w1 ⟨rfl, h1, h2⟩
  have MM := Lib.hid (made_of (x := .int .i64 0) (y := .string ⟨#[]⟩) (z := .int .i64 0) HB.out h1 h2)
  clear bo bn ba k0 h1 h2 hif hk0 hk1
  go_wp2_with fail
  generalize hX : w1.heap.size = X at *
  generalize (w1.alloc (.cells #[.int .i64 0, .string ⟨#[]⟩, .int .i64 0] 24)) = w5 at *
  clear hX
  obtain ⟨cO, cN, cA, cx, cy, cz, bb, hbe⟩ := MM.out
  have HE := Lib.hid hbe
  have HBB := Lib.hid bb
  have hpp := HP.out
  clear MM hbe bb HB
  go_loop [9, 10] (fun u i => ∃ j : Nat, j ≤ p ∧ u = .int .i64 (-1) ∧ i = .int .i64 j) (fun _ i => p - (intOf i).toNat)
  case atStart => exact ⟨0, Nat.zero_le _, rfl, rfl⟩
  case round =>
    obtain ⟨j, hj, rfl, rfl⟩ := hrel
    by_cases hlt : j < p
    · have h1 : j < len := by omega
      have h2 : j < 20 := by omega
      have h1' : (j : Int) < (len : Int) := by omega
      have h0' : (0 : Int) ≤ (j : Int) := by omega
      have h2' : (j : Int) < 20 := by omega
      obtain ⟨b, off, rfl, hc⟩ := HBB.out (by omega)
      have hck := (hc j h1).1
      rw [HF.out j hlt] at hck
      clear hc hpp
      go_wp2_with fail
      go_round
      case rel => exact ⟨j + 1, by omega, rfl, by go_num⟩
      case measure => simp [intOf]; omega
    · obtain rfl : j = p := by omega
      by_cases h1 : j < len
      · have h2 : ¬ j < 20 := by omega
        have h1' : (j : Int) < (len : Int) := by omega
        have h2' : ¬ (j : Int) < 20 := by omega
        clear hpp
        go_wp2_with (go_at_call 3; refine (trapRuns_any _).mono ?_; rintro e w' ⟨rfl, hw⟩)
        go_ret
        exact ⟨rfl, HE.out.trans (hw.mono HE.out.size)⟩
      · have h1' : ¬ (j : Int) < (len : Int) := by omega
        clear hpp
        go_wp2_with (go_at_call 3; refine (trapRuns_any _).mono ?_; rintro e w' ⟨rfl, hw⟩)
        go_ret
        exact ⟨rfl, HE.out.trans (hw.mono HE.out.size)⟩
/-- the law's own loop: the first place that isn't so, as far as it has come -/
def Fst (p m : Nat) (u i : Value) : Prop := ∃ (j : Nat) (c : Int), j ≤ m ∧ u = .int .i64 c ∧ i = .int .i64 j ∧ ((j ≤ p ∧ c = -1) ∨ (p < j ∧ c = p))

set_option maxHeartbeats 1000000 in
set_option maxRecDepth 100000 in
theorem many_thrown (ao : Option Addr) (len cap k p m : Nat) (note cut : ByteArray) (f : Nat → Bool) (w : World)
    (hif : (if (9 : Int) < (note.size : Int) then (9 : Int) else (note.size : Int)) = (k : Int)) (hk0 : (0 : Int) ≤ (k : Int)) (hk1 : (k : Int) ≤ (note.size : Int))
    (hcut : Hid (note.extract 0 k = cut)) (hb : BoolsAt ao len f w) (hp : p < min len 20) (hf : ∀ j, j < p → f j = true) (hfp : f p = false) (hm : m = min len 20) :
    Calls Try.prog 6 #[.slice ao len cap, .string note] w fun e w' => e = .returned (.bool true) ∧ Below w.heap.size w w' := by
  have HB := Lib.hid hb
  have HF := Lib.hid hf
  have HP := Lib.hid hp
  have HFP := Lib.hid hfp
  have HM := Lib.hid hm
  clear hb hf hp hfp hm
  go_enter Try.func6, Try.ntmps6
  go_wp2_with fail
  rw [hcut.out]
  have k0 : Kp (fun _ => False) w (((w.alloc (.cells #[.slice ao len cap] 36)).alloc (.cells #[.string cut] 9)).alloc (.cells #[.int .i64 0] 3)) := (((Kp.refl _ w).alloc _).alloc _).alloc _
  have bo := blk_alloc (blk_alloc (blk_new w (.cells #[.slice ao len cap] 36)) (.cells #[.string cut] 9)) (.cells #[.int .i64 0] 3)
  have bn := blk_alloc (blk_new (w.alloc (.cells #[.slice ao len cap] 36)) (.cells #[.string cut] 9)) (.cells #[.int .i64 0] 3)
  have ba := blk_new ((w.alloc (.cells #[.slice ao len cap] 36)).alloc (.cells #[.string cut] 9)) (.cells #[.int .i64 0] 3)
  simp only [World.size_alloc] at bn ba
  refine (run20_thrown w.heap.size (w.heap.size + 1 + 1) (w.heap.size + 1) len cap p ao f cut _ bo ba bn (HB.out.kp k0 (fun _ _ _ _ t => t)) (by omega) (by omega) (HB.out.far (by omega)) HP.out HF.out HFP.out).mono ?_
  rintro e w1 ⟨rfl, h1, h2⟩
  have MM := Lib.hid (made_of (x := .int .i64 8) (y := .string cut) (z := .int .i64 p) HB.out h1 h2)
  clear bo bn ba k0 h1 h2 hif hk0 hk1
  go_wp2_with fail
  generalize hX : w1.heap.size = X at *
  generalize (w1.alloc (.cells #[.int .i64 8, .string cut, .int .i64 p] 24)) = w5 at *
  clear hX
  obtain ⟨cO, cN, cA, cx, cy, cz, bb, hbe⟩ := MM.out
  have HE := Lib.hid hbe
  have HBB := Lib.hid bb
  have hpp := HP.out
  have hmm := HM.out
  clear MM hbe bb HB
  go_loop [9, 10] (Fst p m) (fun _ i => m - (intOf i).toNat)
  case atStart => exact ⟨0, -1, Nat.zero_le _, rfl, rfl, Or.inl ⟨Nat.zero_le _, rfl⟩⟩
  case round =>
    obtain ⟨j, c, hj, rfl, rfl, hc⟩ := hrel
    by_cases hlt : j < m
    · have h1 : j < len := by omega
      have h2 : j < 20 := by omega
      have h1' : (j : Int) < (len : Int) := by omega
      have h0' : (0 : Int) ≤ (j : Int) := by omega
      have h2' : (j : Int) < 20 := by omega
      obtain ⟨b, off, rfl, hcc⟩ := HBB.out (by omega)
      have hck := (hcc j h1).1
      clear hcc hpp hmm
      by_cases hjp : j < p
      · obtain rfl : c = -1 := by omega
        rw [HF.out j hjp] at hck
        clear hc
        go_wp2_with fail
        go_round
        case rel => exact ⟨j + 1, -1, by omega, rfl, by go_num, Or.inl ⟨by omega, rfl⟩⟩
        case measure => simp [intOf]; omega
      · by_cases hje : j = p
        · subst hje
          obtain rfl : c = -1 := by omega
          rw [HFP.out] at hck
          clear hc
          go_wp2_with fail
          go_round
          case rel => exact ⟨j + 1, j, by omega, rfl, by go_num, Or.inr ⟨by omega, rfl⟩⟩
          case measure => simp [intOf]; omega
        · obtain rfl : c = p := by omega
          have hq : ¬ (p : Int) < 0 := by omega
          clear hc
          cases hfj : f j with
          | true =>
            rw [hfj] at hck
            clear hfj
            go_wp2_with fail
            go_round
            case rel => exact ⟨j + 1, p, by omega, rfl, by go_num, Or.inr ⟨by omega, rfl⟩⟩
            case measure => simp [intOf]; omega
          | false =>
            rw [hfj] at hck
            clear hfj
            go_wp2_with fail
            go_round
            case rel => exact ⟨j + 1, p, by omega, rfl, by go_num, Or.inr ⟨by omega, rfl⟩⟩
            case measure => simp [intOf]; omega
    · obtain rfl : j = m := by omega
      obtain rfl : c = p := by omega
      have hq : ¬ (p : Int) < 0 := by omega
      have hq2 : (0 : Int) ≤ (p : Int) := by omega
      have hq3 : (p : Int) < 20 := by omega
      clear hc
      by_cases h1 : j < len
      · have h2 : ¬ j < 20 := by omega
        have h1' : (j : Int) < (len : Int) := by omega
        have h2' : ¬ (j : Int) < 20 := by omega
        clear hpp hmm
        go_wp2_with (go_at_call 3; refine (trapRuns_any _).mono ?_; rintro e w' ⟨rfl, hw⟩)
        go_ret
        exact ⟨rfl, HE.out.trans (hw.mono HE.out.size)⟩
      · have h1' : ¬ (j : Int) < (len : Int) := by omega
        clear hpp hmm
        go_wp2_with (go_at_call 3; refine (trapRuns_any _).mono ?_; rintro e w' ⟨rfl, hw⟩)
        go_ret
        exact ⟨rfl, HE.out.trans (hw.mono HE.out.size)⟩

end Go.Proofs.Ytnbkgpkgfolakaa
