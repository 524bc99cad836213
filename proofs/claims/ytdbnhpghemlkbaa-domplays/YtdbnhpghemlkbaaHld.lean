/-
  holds: does a node hold another one.
-/
import Derived.Test.YtdbnhpghemlkbaaFld
import Derived.Deep.LoopGhost
namespace Go.Proofs.Ytdbnhpghemlkbaa
open Go.RowKit Go.PlainAid Dm
set_option maxRecDepth 100000

noncomputable def hldB (s : St) (a b : Nat) : Bool := by classical exact decide (s.holds a b)
theorem hldB_true {s : St} {a b : Nat} : hldB s a b = true ↔ s.holds a b := by unfold hldB; simp
theorem hldB_false {s : St} {a b : Nat} : hldB s a b = false ↔ ¬ s.holds a b := by unfold hldB; simp
def mea (R : Nat) (r : Nat → Nat) (x : Int) : Nat := if x = 0 then 0 else R + 1 - r x.toNat

theorem mea_lt {R : Nat} {r : Nat → Nat} {x p : Nat} (hx : x ≠ 0) (h : r x ≤ R) (hp : p ≠ 0 → r x < r p ∧ r p ≤ R) : mea R r (p : Int) < mea R r (x : Int) := by
  unfold mea
  have h1 : ¬ (x : Int) = 0 := by omega
  rw [if_neg h1]
  by_cases h2 : (p : Int) = 0
  · rw [if_pos h2, Int.toNat_natCast]
    omega
  · have := hp (by omega)
    rw [if_neg h2, Int.toNat_natCast, Int.toNat_natCast]
    omega
theorem beqF {a b : Int} (h : a ≠ b) : (a == b) = false := by rw [beq_eq_false_iff_ne]; exact h
theorem bneT {a b : Int} (h : a ≠ b) : (a != b) = true := by rw [bne_iff_ne]; exact h
section
variable {ro : Ros} {D : Nat} {s : St}
set_option maxHeartbeats 3200000 in
theorem holds35 (a b : Nat) (w : World) (h : Dom mP ro w D s) (hv : Inv s) (ha : a ≤ s.top) (hb : b ≤ s.top) (h0 : a ≠ 0) :
    Calls Try.prog 35 #[.pointer (some ⟨D, 0, none⟩), .int .i64 a, .int .i64 b] w fun e w' => e = .returned (.bool (hldB s a b)) ∧ w = w' := by
  obtain ⟨N, c, fv, av, kv, h⟩ := h
  have c0 := h.c0
  obtain ⟨_, _, _, _, _, _, n6⟩ := h.nc ha
  obtain ⟨K, k, e2, _, _⟩ := (h.ki a ha).shape
  rw [e2] at n6
  have ha2 : (a : Int) < (s.top : Int) + 1 := by omega
  have P := Lib.hid (fun (i : Nat) (hi : i ≤ s.top) => (h.nc hi).2.2.2.2.2.1)
  have V := Lib.hid hv
  clear h e2 hv
  rcases Nat.eq_zero_or_pos (s.nd a).kids.length with hz | hz
  · have hk : (s.nd a).kids = [] := List.eq_nil_of_length_eq_zero hz
    have E : Hid (hldB s a b = ((a : Int) == (b : Int))) := by
      by_cases e : a = b
      · subst e
        simp only [beq_self_eq_true]
        exact hldB_true.2 (holds_self h0)
      · rw [show ((a : Int) == (b : Int)) = false from beqF (by omega)]
        refine hldB_false.2 (fun hh => ?_)
        rcases V.out.holds_cases hh with h1 | ⟨k, h1, _⟩
        · exact e h1.symm
        · rw [hk] at h1; cases h1
    rw [hz] at n6
    clear hz hk
    go_enter Try.func35, Try.ntmps35
    go_wp2
    go_ret
    exact ⟨by rw [E.out]; rfl, rfl⟩
  · have hz2 : (((s.nd a).kids.length : Int) == 0) = false := beqF (by omega)
    obtain ⟨r, R, hR, hr⟩ := V.out.rank
    have HR := Lib.hid hR
    have Hr := Lib.hid hr
    clear hR hr
    go_enter Try.func35, Try.ntmps35
    go_wp2_with fail
    go_loopw [2] (fun i wr => ∃ (x : Nat), x ≤ s.top ∧ i = .int .i64 x ∧ Hid (s.holds a x ↔ s.holds a b) ∧ wr = w) (fun i _ => mea R r (intOf i))
    case atStart => exact ⟨b, hb, rfl, Iff.rfl, rfl⟩
    case round =>
      obtain ⟨x, hx, rfl, HX, rfl⟩ := hrel
      by_cases e1 : x = a
      · subst e1
        have E : Hid (hldB s x b = true) := hldB_true.2 (HX.out.1 (holds_self h0))
        go_wp2
        go_ret
        exact ⟨by rw [E.out]; rfl, rfl⟩
      · have d1 : ((x : Int) == (a : Int)) = false := beqF (by omega)
        have d3 : ((x : Int) != (a : Int)) = true := bneT (by omega)
        by_cases e2 : x = 0
        · subst e2
          have d4 : ((0 : Int) == (a : Int)) = false := d1
          have d5 : ((0 : Int) != (a : Int)) = true := d3
          have E : Hid (hldB s a b = false) := hldB_false.2 (fun hh => V.out.not_holds_zero a (HX.out.2 hh))
          go_wp2
          go_ret
          exact ⟨by rw [E.out]; rfl, rfl⟩
        · have d2 : ((x : Int) == 0) = false := beqF (by omega)
          have d4 : ((x : Int) != 0) = true := bneT (by omega)
          have hx2 : (x : Int) < (s.top : Int) + 1 := by omega
          have n5 := P.out x hx
          have M := Lib.hid (mea_lt (p := (s.nd x).par) e2 (HR.out x) (fun h => ⟨Hr.out x h, HR.out _⟩))
          have HP : Hid ((s.nd x).par ≤ s.top) := by
            by_cases h3 : (s.nd x).par = 0
            · rw [h3]; exact Nat.zero_le _
            · exact (V.out.live_pos (V.out.par_live h3)).2
          have HS : Hid (s.holds a (s.nd x).par ↔ s.holds a b) := by
            rw [← HX.out, holds_step (b := x)]
            constructor
            · intro h; exact Or.inr h
            · rintro (⟨_, h⟩ | h)
              · exact absurd h.symm e1
              · exact h
          go_wp2_with fail
          go_roundw
          case rel => exact ⟨_, HP.out, rfl, HS, trivial⟩
          case measure => exact M.out
end
end Go.Proofs.Ytdbnhpghemlkbaa
