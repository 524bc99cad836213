/-
  Which trees are right: rightNode, rightWithin, Right.
-/
import Derived.Test.YtolklphenllhpaaRgt
import Derived.Test.YtolklphenllhpaaSam
namespace Go.Proofs.Ytolklphenllhpaa
open Go.RowKit Go.PlainAid
set_option maxRecDepth 100000

set_option maxHeartbeats 12800000 in
theorem rightNode27 {p : Nat → Prop} (v : Value) (t : Tr) (w : World) (h : TrW p w v t) (ha : AtS t.attrs) (hz : t.tag.size ≤ 1000000 ∧ t.key.size ≤ 1000000 ∧ t.text.size ≤ 1000000) :
    Calls Try.prog 27 #[v] w fun e w' => e = .returned (.bool (rn t)) ∧ Below w.heap.size w w' := by
  obtain ⟨g, k, x, a, ks, A1, l1, a1, K1, c1, rfl, rfl⟩ := h.parts
  obtain ⟨_, _, _, PA, hla, KA⟩ := h.ks
  obtain ⟨z1, z2, z3⟩ := hz
  simp only [Tr.tag, Tr.key, Tr.text, Tr.attrs] at ha z1 z2 z3
  obtain ⟨A', c', e1, _⟩ := PA
  cases e1
  have PA := h.ks.2.2.2.1
  obtain ⟨A'', c'', cv, e2, hlk, _⟩ := KA
  cases e2
  have hb0 := (Below.refl _ w).alloc (Nat.le_refl _) (.cells #[.string g, .string k, .string x, .slice A1 a.length a1, .slice K1 ks.length c1] 27 (0, 0))
  have X0 := Lib.hid (blk_new w (.cells #[.string g, .string k, .string x, .slice A1 a.length a1, .slice K1 ks.length c1] 27 (0, 0)))
  have PA2 := Lib.hid (PA.call hb0)
  have B0 := Lib.hid hb0
  have HA := Lib.hid ha
  clear PA hb0 ha h
  have qg := size_nil g
  have qk := size_nil k
  have qx := size_nil x
  by_cases eg : g.size = 0
  · rw [decide_eq_true eg] at qg
    have R : Hid (rn (.mk g k x a ks) = decide (k.size = 0 ∧ a.length = 0 ∧ ks.length = 0 ∧ x.size ≤ 64)) := by show (if g.size = 0 then _ else _) = _; rw [if_pos eg]
    by_cases e1 : k.size = 0
    rotate_left
    · rw [decide_eq_false e1] at qk
      have E : Hid (rn (.mk g k x a ks) = false) := by rw [Hid, R.out]; exact decide_eq_false (fun h => e1 h.1)
      go_enter Try.func27, Try.ntmps27
      go_wp2
      go_ret
      exact ⟨by rw [E.out]; rfl, B0.out⟩
    rw [decide_eq_true e1] at qk
    by_cases e2 : a.length = 0
    rotate_left
    · have q2 : ((a.length : Int) == 0) = false := beqF (by omega)
      have E : Hid (rn (.mk g k x a ks) = false) := by rw [Hid, R.out]; exact decide_eq_false (fun h => e2 h.2.1)
      clear e2
      go_enter Try.func27, Try.ntmps27
      go_wp2
      go_ret
      exact ⟨by rw [E.out]; rfl, B0.out⟩
    have q2 : ((a.length : Int) == 0) = true := by rw [e2]; rfl
    have E2 := Lib.hid e2
    clear e2
    by_cases e3 : ks.length = 0
    rotate_left
    · have q3 : ((ks.length : Int) == 0) = false := beqF (by omega)
      have E : Hid (rn (.mk g k x a ks) = false) := by rw [Hid, R.out]; exact decide_eq_false (fun h => e3 h.2.2.1)
      clear e3
      go_enter Try.func27, Try.ntmps27
      go_wp2
      go_ret
      exact ⟨by rw [E.out]; rfl, B0.out⟩
    have q3 : ((ks.length : Int) == 0) = true := by rw [e3]; rfl
    have E3 := Lib.hid e3
    clear e3
    by_cases e4 : x.size ≤ 64
    · have q4 : decide ((x.size : Int) ≤ 64) = true := decide_eq_true (by omega)
      have E : Hid (rn (.mk g k x a ks) = true) := by rw [Hid, R.out]; exact decide_eq_true ⟨e1, E2.out, E3.out, e4⟩
      clear e1 e4
      go_enter Try.func27, Try.ntmps27
      go_wp2
      go_ret
      exact ⟨by rw [E.out]; rfl, B0.out⟩
    · have q4 : decide ((x.size : Int) ≤ 64) = false := decide_eq_false (by omega)
      have E : Hid (rn (.mk g k x a ks) = false) := by rw [Hid, R.out]; exact decide_eq_false (fun h => e4 h.2.2.2)
      clear e1 e4
      go_enter Try.func27, Try.ntmps27
      go_wp2
      go_ret
      exact ⟨by rw [E.out]; rfl, B0.out⟩
  · rw [decide_eq_false eg] at qg
    have R : Hid (rn (.mk g k x a ks) = (tagB g && decide (k.size ≤ 64) && decide (x.size = 0) && atB a && decide (ks.length ≤ 24))) := by show (if g.size = 0 then _ else _) = _; rw [if_neg eg]
    clear qk eg
    go_enter Try.func27, Try.ntmps27
    go_upto_region 3 with fail
    generalize w.alloc _ = w1 at *
    have x0 := blk_cell X0.out 0
    simp at x0
    go_wp2_with fail
    refine (rightTag29 g w1 z1).mono ?_
    rintro e w2 ⟨rfl, hb2⟩
    have B2 := Lib.hid (B0.out.trans (hb2.mono B0.out.size))
    have X2 := Lib.hid (blk_call X0.out hb2)
    have PA3 := Lib.hid (PA2.out.call hb2)
    clear hb2 B0 X0 PA2 x0
    have y1 := blk_cell X2.out 1
    have y2 := blk_cell X2.out 2
    have y3 := blk_cell X2.out 3
    have y4 := blk_cell X2.out 4
    simp at y1 y2 y3 y4
    cases hq : tagB g with
    | false =>
      have E : Hid (rn (.mk g k x a ks) = false) := by rw [Hid, R.out, hq]; rfl
      go_wp2
      go_ret
      exact ⟨by rw [E.out]; rfl, B2.out⟩
    | true =>
      by_cases e1 : k.size ≤ 64
      rotate_left
      · have q1 : decide ((k.size : Int) ≤ 64) = false := decide_eq_false (by omega)
        have E : Hid (rn (.mk g k x a ks) = false) := by rw [Hid, R.out, hq, decide_eq_false e1]; rfl
        clear e1
        go_wp2
        go_ret
        exact ⟨by rw [E.out]; rfl, B2.out⟩
      have q1 : decide ((k.size : Int) ≤ 64) = true := decide_eq_true (by omega)
      by_cases e2 : x.size = 0
      rotate_left
      · rw [decide_eq_false e2] at qx
        have E : Hid (rn (.mk g k x a ks) = false) := by rw [Hid, R.out, hq, decide_eq_true e1, decide_eq_false e2]; rfl
        clear e1 e2
        go_wp2
        go_ret
        exact ⟨by rw [E.out]; rfl, B2.out⟩
      rw [decide_eq_true e2] at qx
      have R2 : Hid (rn (.mk g k x a ks) = (atB a && decide (ks.length ≤ 24))) := by rw [Hid, R.out, hq, decide_eq_true e1, decide_eq_true e2]; rfl
      clear e1 e2 R
      go_wp2_with fail
      refine (rightAttrs30 _ a w2 PA3.out HA.out).mono ?_
      rintro e w3 ⟨rfl, hb3⟩
      have B3 := Lib.hid (B2.out.trans (hb3.mono B2.out.size))
      have X3 := Lib.hid (blk_call X2.out hb3)
      clear hb3 B2 X2 y1 y2 y3 y4
      have y4 := blk_cell X3.out 4
      simp at y4
      cases hq2 : atB a with
      | false =>
        have E : Hid (rn (.mk g k x a ks) = false) := by rw [Hid, R2.out, hq2]; rfl
        go_wp2
        go_ret
        exact ⟨by rw [E.out]; rfl, B3.out⟩
      | true =>
        by_cases e3 : ks.length ≤ 24
        · have q3 : decide ((ks.length : Int) ≤ 24) = true := decide_eq_true (by omega)
          have E : Hid (rn (.mk g k x a ks) = true) := by rw [Hid, R2.out, hq2, decide_eq_true e3]; rfl
          clear e3
          go_wp2
          go_ret
          exact ⟨by rw [E.out]; rfl, B3.out⟩
        · have q3 : decide ((ks.length : Int) ≤ 24) = false := decide_eq_false (by omega)
          have E : Hid (rn (.mk g k x a ks) = false) := by rw [Hid, R2.out, hq2, decide_eq_false e3]; rfl
          clear e3
          go_wp2
          go_ret
          exact ⟨by rw [E.out]; rfl, B3.out⟩
end Go.Proofs.Ytolklphenllhpaa
