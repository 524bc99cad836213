/-
  The reference: Lives, Parent, Kids, holds.
-/
import Derived.Test.YtdbnhpghemlkbaaHld
import Derived.Test.YtdbnhpghemlkbaaSme
namespace Go.Proofs.Ytdbnhpghemlkbaa
open Go.RowKit Go.PlainAid Dm
set_option maxRecDepth 100000

section
variable {ro : Ros} {D : Nat} {s : St}
set_option maxHeartbeats 1600000 in
theorem lives43 (i : Int) (w : World) (h : Dom mR ro w D s) (hv : Inv s) :
    Calls Try.prog 43 #[.pointer (some ⟨D, 0, none⟩), .int .i64 i] w fun e w' => e = .returned (.bool (s.lives i)) ∧ w = w' := by
  obtain ⟨N, c, fv, av, kv, h⟩ := h
  have c0 := h.c0
  by_cases h1 : 0 < i
  · by_cases h2 : i < (s.top : Int) + 1
    · obtain ⟨k, rfl⟩ : ∃ k : Nat, i = k := ⟨i.toNat, by omega⟩
      obtain ⟨n0, _⟩ := h.nc (i := k) (by omega)
      replace n0 : _ = some (Value.bool (s.nd k).live) := n0
      have E : Hid (s.lives (k : Int) = (s.nd k).live) := by
        unfold Hid St.lives
        rw [decide_eq_true h1, Int.toNat_natCast]
        rfl
      clear h hv
      generalize (s.nd k).live = b at *
      go_enter Try.func43, Try.ntmps43
      go_wp2
      go_ret
      exact ⟨by rw [E.out]; rfl, rfl⟩
    · have E : Hid (s.lives i = false) := by
        unfold Hid St.lives
        rw [hv.high i.toNat (by omega)]
        simp [nd0]
      clear h hv
      go_enter Try.func43, Try.ntmps43
      go_wp2
      go_ret
      exact ⟨by rw [E.out]; rfl, rfl⟩
  · have E : Hid (s.lives i = false) := by
      unfold Hid St.lives
      rw [decide_eq_false h1]
      rfl
    clear h hv
    go_enter Try.func43, Try.ntmps43
    go_wp2
    go_ret
    exact ⟨by rw [E.out]; rfl, rfl⟩
theorem ndI_dead (hv : Inv s) {i : Int} (hl : s.lives i = false) : ndI s i = nd0 := by
  unfold ndI
  split
  · rfl
  · rename_i h0
    by_cases h1 : i = 0
    · subst h1
      exact hv.zero
    · unfold St.lives at hl
      rw [decide_eq_true (by omega)] at hl
      exact hv.dead _ (by simpa using hl)
set_option maxHeartbeats 1600000 in
theorem parent50 (i : Int) (w : World) (h : Dom mR ro w D s) (hv : Inv s) :
    Calls Try.prog 50 #[.pointer (some ⟨D, 0, none⟩), .int .i64 i] w fun e w' => e = .returned (.int .i64 (ndI s i).par) ∧ w = w' := by
  have G := Lib.hid (lives43 i w h hv)
  cases hl : s.lives i with
  | false =>
    have E : Hid ((ndI s i).par = 0) := by rw [Hid, ndI_dead hv hl]; rfl
    clear h hv
    go_enter Try.func50, Try.ntmps50
    go_wp2_with fail
    refine G.out.mono ?_
    rintro e w' ⟨rfl, rfl⟩
    rw [hl]
    go_wp2
    go_ret
    exact ⟨by rw [E.out]; rfl, rfl⟩
  | true =>
    obtain ⟨k, rfl, hk, _, _⟩ := lives_nat hv hl
    have E : Hid (ndI s (k : Int) = s.nd k) := by rw [Hid, ndI_at hl, Int.toNat_natCast]
    obtain ⟨N, c, fv, av, kv, h⟩ := h
    have c0 := h.c0
    obtain ⟨_, _, _, _, _, n5, _⟩ := h.nc hk
    have hk2 : (k : Int) < (s.top : Int) + 1 := by omega
    clear h hv
    go_enter Try.func50, Try.ntmps50
    go_wp2_with fail
    refine G.out.mono ?_
    rintro e w' ⟨rfl, rfl⟩
    rw [hl]
    go_wp2
    go_ret
    exact ⟨by rw [E.out]; rfl, rfl⟩
set_option maxHeartbeats 1600000 in
theorem kids51 (i : Int) (w : World) (h : Dom mR ro w D s) (hv : Inv s) :
    Calls Try.prog 51 #[.pointer (some ⟨D, 0, none⟩), .int .i64 i] w fun e w' => (∃ v, e = .returned v ∧ Ni w v (ndI s i).kids) ∧ w = w' := by
  have G := Lib.hid (lives43 i w h hv)
  cases hl : s.lives i with
  | false =>
    have E : Hid ((ndI s i).kids = []) := by rw [Hid, ndI_dead hv hl]; rfl
    clear h hv
    go_enter Try.func51, Try.ntmps51
    go_wp2_with fail
    refine G.out.mono ?_
    rintro e w' ⟨rfl, rfl⟩
    rw [hl]
    go_wp2
    go_ret
    exact ⟨⟨_, rfl, by rw [E.out]; exact ⟨none, 0, rfl, Nat.le_refl _, fun _ => rfl, fun i hi => absurd hi (Nat.not_lt_zero i)⟩⟩, rfl⟩
  | true =>
    obtain ⟨k, rfl, hk, _, _⟩ := lives_nat hv hl
    have E : Hid (ndI s (k : Int) = s.nd k) := by rw [Hid, ndI_at hl, Int.toNat_natCast]
    obtain ⟨N, c, fv, av, kv, h⟩ := h
    have c0 := h.c0
    obtain ⟨_, _, _, _, _, _, n6⟩ := h.nc hk
    have NK := Lib.hid (owns_ni (h.ki k hk).1)
    obtain ⟨K, kc, e2, _, _⟩ := (h.ki k hk).shape
    rw [e2] at n6 NK
    have hk2 : (k : Int) < (s.top : Int) + 1 := by omega
    clear h hv e2
    go_enter Try.func51, Try.ntmps51
    go_wp2_with fail
    refine G.out.mono ?_
    rintro e w' ⟨rfl, rfl⟩
    rw [hl]
    go_wp2
    go_ret
    exact ⟨⟨_, rfl, by rw [E.out]; exact NK.out⟩, rfl⟩
set_option maxHeartbeats 3200000 in
theorem holds44 (a b : Nat) (w : World) (h : Dom mR ro w D s) (hv : Inv s) (_ : a ≤ s.top) (hb : b ≤ s.top) (h0 : a ≠ 0) :
    Calls Try.prog 44 #[.pointer (some ⟨D, 0, none⟩), .int .i64 a, .int .i64 b] w fun e w' => e = .returned (.bool (hldB s a b)) ∧ w = w' := by
  obtain ⟨N, c, fv, av, kv, h⟩ := h
  have c0 := h.c0
  have P := Lib.hid (fun (i : Nat) (hi : i ≤ s.top) => (h.nc hi).2.2.2.2.2.1)
  have V := Lib.hid hv
  obtain ⟨r, R, hR, hr⟩ := V.out.rank
  have HR := Lib.hid hR
  have Hr := Lib.hid hr
  clear h hv hR hr
  go_enter Try.func44, Try.ntmps44
  go_wp2_with fail
  go_loopw [2] (fun i wr => ∃ (x : Nat), x ≤ s.top ∧ i = .int .i64 x ∧ Hid (s.holds a x ↔ s.holds a b) ∧ wr = w) (fun i _ => mea R r (intOf i))
  case atStart => exact ⟨b, hb, rfl, Iff.rfl, rfl⟩
  case round =>
    obtain ⟨x, hx, rfl, HX, rfl⟩ := hrel
    by_cases e2 : x = 0
    · subst e2
      have E : Hid (hldB s a b = false) := hldB_false.2 (fun hh => V.out.not_holds_zero a (HX.out.2 hh))
      go_wp2
      go_ret
      exact ⟨by rw [E.out]; rfl, rfl⟩
    · have d0 : (0 : Int) < (x : Int) := by omega
      by_cases e1 : x = a
      · subst e1
        have E : Hid (hldB s x b = true) := hldB_true.2 (HX.out.1 (holds_self h0))
        go_wp2
        go_ret
        exact ⟨by rw [E.out]; rfl, rfl⟩
      · have d1 : ((a : Int) == (x : Int)) = false := beqF (by omega)
        have hx2 : (x : Int) < (s.top : Int) + 1 := by omega
        have n5 := P.out x hx
        have M := Lib.hid (mea_lt (p := (s.nd x).par) e2 (HR.out x) (fun h => ⟨Hr.out x h, HR.out _⟩))
        have HP : Hid ((s.nd x).par ≤ s.top) := by
          by_cases h3 : (s.nd x).par = 0
          · rw [h3]; exact Nat.zero_le _
          · exact (V.out.live_pos (V.out.par_live h3)).2
        have HS : Hid (s.holds a (s.nd x).par ↔ s.holds a b) := by
          rw [← HX.out, holds_step (b := x)]
          constructor
          · intro h; exact Or.inr h
          · rintro (⟨_, h⟩ | h)
            · exact absurd h.symm e1
            · exact h
        go_wp2_with fail
        go_roundw
        case rel => exact ⟨_, HP.out, rfl, HS, trivial⟩
        case measure => exact M.out
end
end Go.Proofs.Ytdbnhpghemlkbaa
