/-
  rule.isSet, rule.Ask, rule.Right, and the reference's.
-/
import Derived.Test.YtfmjlgplcepomaaBase
import Derived.Lib.Hide
import Derived.Lib.Small
namespace Go.Proofs.Ytfmjlgplcepomaa
open Go.RowKit Go.PlainAid
set_option maxRecDepth 100000

/-- is flag i of these set? -/
def stB (n : Nat) (g : Nat → Bool) (i : Int) : Bool := decide (0 ≤ i) && decide (i < n) && g i.toNat
theorem stB_neg {n : Nat} {g : Nat → Bool} {i : Int} (h : ¬ 0 ≤ i) : stB n g i = false := by
  simp [stB, h]
theorem stB_big {n : Nat} {g : Nat → Bool} {i : Int} (h : ¬ i < n) : stB n g i = false := by
  simp [stB, h]
theorem stB_nat {n : Nat} {g : Nat → Bool} {i : Nat} (h : i < n) : stB n g (i : Int) = g i := by
  simp [stB, h]

set_option maxHeartbeats 400000 in
theorem isSet12 (v : Value) (n : Nat) (g : Nat → Bool) (i : Int) (w : World) (h : Bs w v n g) :
    Calls Try.prog 12 #[.int .i64 i, v] w fun e w' => e = .returned (.bool (stB n g i)) ∧ w' = w := by
  obtain ⟨A, c, rfl, _, _, hc⟩ := h
  by_cases h0 : 0 ≤ i
  · obtain ⟨k, rfl⟩ : ∃ k : Nat, i = (k : Int) := ⟨i.toNat, by omega⟩
    by_cases h1 : (k : Int) < (n : Int)
    · obtain ⟨b, o, rfl, hk⟩ := hc k (by omega)
      have hS : Hid (stB n g (k : Int) = g k) := stB_nat (by omega)
      clear hc
      generalize g k = z at *
      go_enter Try.func12, Try.ntmps12
      go_wp2
      go_ret
      exact ⟨by rw [hS.out]; rfl, rfl⟩
    · have hS : Hid (stB n g (k : Int) = false) := stB_big h1
      clear hc
      go_enter Try.func12, Try.ntmps12
      go_wp2
      go_ret
      exact ⟨by rw [hS.out]; rfl, rfl⟩
  · have hS : Hid (stB n g i = false) := stB_neg h0
    clear hc
    go_enter Try.func12, Try.ntmps12
    go_wp2
    go_ret
    exact ⟨by rw [hS.out]; rfl, rfl⟩
set_option maxHeartbeats 400000 in
theorem flag13 (v : Value) (n : Nat) (g : Nat → Bool) (i : Int) (w : World) (h : Bs w v n g) :
    Calls Try.prog 13 #[v, .int .i64 i] w fun e w' => e = .returned (.bool (stB n g i)) ∧ w' = w := by
  obtain ⟨A, c, rfl, _, _, hc⟩ := h
  by_cases h0 : 0 ≤ i
  · obtain ⟨k, rfl⟩ : ∃ k : Nat, i = (k : Int) := ⟨i.toNat, by omega⟩
    by_cases h1 : (k : Int) < (n : Int)
    · obtain ⟨b, o, rfl, hk⟩ := hc k (by omega)
      have hS : Hid (stB n g (k : Int) = g k) := stB_nat (by omega)
      clear hc
      generalize g k = z at *
      go_enter Try.func13, Try.ntmps13
      go_wp2
      go_ret
      exact ⟨by rw [hS.out]; rfl, rfl⟩
    · have hS : Hid (stB n g (k : Int) = false) := stB_big h1
      clear hc
      go_enter Try.func13, Try.ntmps13
      go_wp2
      go_ret
      exact ⟨by rw [hS.out]; rfl, rfl⟩
  · have hS : Hid (stB n g i = false) := stB_neg h0
    clear hc
    go_enter Try.func13, Try.ntmps13
    go_wp2
    go_ret
    exact ⟨by rw [hS.out]; rfl, rfl⟩

/-- what a rule says, by its kind, and whether its flag is set -/
def sayI (k : Int) (s : Bool) : Int := if k = 0 then 0 else if k = 2 then (if s then 0 else 1) else if k = 3 then 2 else if k = 4 then (if s then 0 else 2) else 1
def toT (k : Int) (s : Bool) (t : ByteArray) : ByteArray := if k = 3 then t else if k = 4 then (if s then ⟨#[]⟩ else t) else ⟨#[]⟩
theorem kinds (k : Int) : k = 0 ∨ k = 1 ∨ k = 2 ∨ k = 3 ∨ k = 4 ∨ (¬ k = 0 ∧ ¬ k = 1 ∧ ¬ k = 2 ∧ ¬ k = 3 ∧ ¬ k = 4) := by omega

theorem belN {B : Nat} {a w : World} (h : Below B a w) (q : Nat) : Below B a (w.drewN q) := ⟨h.os, h.tape, h.output, h.size, h.block⟩

def AskPost (r : Rl) (n : Nat) (g : Nat → Bool) (w : World) (e : Ending) (w' : World) : Prop :=
  e = .returned (.tuple #[.int .i64 (sayI r.k (stB n g r.f)), .string (toT r.k (stB n g r.f) r.t)]) ∧ Below w.heap.size w w'

set_option maxHeartbeats 1600000 in
theorem ask7 (r : Rl) (v : Value) (n : Nat) (g : Nat → Bool) (w : World) (h : Bs w v n g) :
    Calls Try.prog 7 #[.agg #[.int .i64 r.k, .int .i64 r.f, .string r.t], v] w (AskPost r n g w) := by
  obtain ⟨k, f, t⟩ := r
  dsimp only
  unfold AskPost
  have HB := Lib.hid ((Below.refl w.heap.size w).alloc (Nat.le_refl _) (.cells #[.int .i64 k, .int .i64 f, .string t] 23 (0, 0)))
  have HS := Lib.hid (h.call HB.out)
  obtain ⟨A, c, rfl⟩ := h.shape
  clear h
  generalize hs : stB n g f = s at *
  have E := Lib.hid hs
  clear hs
  rcases kinds k with rfl | rfl | rfl | rfl | rfl | ⟨k0, k1, k2, k3, k4⟩
  · go_enter Try.func7, Try.ntmps7
    go_wp2_with fail
    go_ret2
    exact ⟨rfl, HB.out⟩
  · go_enter Try.func7, Try.ntmps7
    go_wp2_with fail
    go_ret2
    exact ⟨rfl, HB.out⟩
  · cases s
    · go_enter Try.func7, Try.ntmps7
      go_wp2_with (first | (go_at_call 12; refine (isSet12 _ _ _ _ _ HS.out).mono ?_; rintro e w' ⟨rfl, rfl⟩; rw [E.out]))
      go_ret2
      exact ⟨rfl, HB.out⟩
    · go_enter Try.func7, Try.ntmps7
      go_wp2_with (first | (go_at_call 12; refine (isSet12 _ _ _ _ _ HS.out).mono ?_; rintro e w' ⟨rfl, rfl⟩; rw [E.out]))
      go_ret2
      exact ⟨rfl, HB.out⟩
  · go_enter Try.func7, Try.ntmps7
    go_wp2_with fail
    go_quiet (fail)
    go_wp2_with fail
    go_ret2
    exact ⟨rfl, belN HB.out _⟩
  · cases s
    · go_enter Try.func7, Try.ntmps7
      go_wp2_with (first | (go_at_call 12; refine (isSet12 _ _ _ _ _ HS.out).mono ?_; rintro e w' ⟨rfl, rfl⟩; rw [E.out]))
      go_quiet (fail)
      go_wp2_with fail
      go_ret2
      exact ⟨rfl, belN HB.out _⟩
    · go_enter Try.func7, Try.ntmps7
      go_wp2_with (first | (go_at_call 12; refine (isSet12 _ _ _ _ _ HS.out).mono ?_; rintro e w' ⟨rfl, rfl⟩; rw [E.out]))
      go_ret2
      exact ⟨rfl, HB.out⟩
  · go_enter Try.func7, Try.ntmps7
    go_wp2_with fail
    go_ret2
    refine ⟨?_, HB.out⟩
    simp [sayI, toT, k0, k2, k3, k4]

set_option maxHeartbeats 1600000 in
theorem ask8 (r : Rl) (v : Value) (n : Nat) (g : Nat → Bool) (w : World) (h : Bs w v n g) :
    Calls Try.prog 8 #[.agg #[.int .i64 r.k, .int .i64 r.f, .string r.t], v] w (AskPost r n g w) := by
  obtain ⟨k, f, t⟩ := r
  dsimp only
  unfold AskPost
  have HB := Lib.hid ((Below.refl w.heap.size w).alloc (Nat.le_refl _) (.cells #[.int .i64 k, .int .i64 f, .string t] 23 (0, 0)))
  have HS := Lib.hid (h.call HB.out)
  obtain ⟨A, c, rfl⟩ := h.shape
  clear h
  generalize hs : stB n g f = s at *
  have E := Lib.hid hs
  clear hs
  rcases kinds k with rfl | rfl | rfl | rfl | rfl | ⟨k0, k1, k2, k3, k4⟩
  · go_enter Try.func8, Try.ntmps8
    go_wp2_with fail
    go_ret2
    exact ⟨rfl, HB.out⟩
  · go_enter Try.func8, Try.ntmps8
    go_wp2_with fail
    go_ret2
    exact ⟨rfl, HB.out⟩
  · cases s
    · go_enter Try.func8, Try.ntmps8
      go_wp2_with (first | (go_at_call 13; refine (flag13 _ _ _ _ _ HS.out).mono ?_; rintro e w' ⟨rfl, rfl⟩; rw [E.out]))
      go_ret2
      exact ⟨rfl, HB.out⟩
    · go_enter Try.func8, Try.ntmps8
      go_wp2_with (first | (go_at_call 13; refine (flag13 _ _ _ _ _ HS.out).mono ?_; rintro e w' ⟨rfl, rfl⟩; rw [E.out]))
      go_ret2
      exact ⟨rfl, HB.out⟩
  · go_enter Try.func8, Try.ntmps8
    go_wp2_with fail
    go_quiet (fail)
    go_wp2_with fail
    go_ret2
    exact ⟨rfl, belN HB.out _⟩
  · cases s
    · go_enter Try.func8, Try.ntmps8
      go_wp2_with (first | (go_at_call 13; refine (flag13 _ _ _ _ _ HS.out).mono ?_; rintro e w' ⟨rfl, rfl⟩; rw [E.out]))
      go_quiet (fail)
      go_wp2_with fail
      go_ret2
      exact ⟨rfl, belN HB.out _⟩
    · go_enter Try.func8, Try.ntmps8
      go_wp2_with (first | (go_at_call 13; refine (flag13 _ _ _ _ _ HS.out).mono ?_; rintro e w' ⟨rfl, rfl⟩; rw [E.out]))
      go_ret2
      exact ⟨rfl, HB.out⟩
  · have q0 : (k == 0) = false := by simpa using k0
    have q2 : (k == 2) = false := by simpa using k2
    have q3 : (k == 3) = false := by simpa using k3
    have q4 : (k == 4) = false := by simpa using k4
    go_enter Try.func8, Try.ntmps8
    go_wp2_with fail
    go_ret2
    refine ⟨?_, HB.out⟩
    simp [sayI, toT, k0, k2, k3, k4]

/-- is it a right rule? -/
def rtB (r : Rl) : Bool := decide (0 ≤ r.k) && decide (r.k ≤ 4) && decide (0 ≤ r.f) && decide (r.f < 8) && (r.t.toList.isEmpty || decide (r.k = 3) || decide (r.k = 4))
set_option maxHeartbeats 1600000 in
theorem right9 (r : Rl) (w : World) :
    Calls Try.prog 9 #[.agg #[.int .i64 r.k, .int .i64 r.f, .string r.t]] w fun e w' => e = .returned (.bool (rtB r)) ∧ Below w.heap.size w w' := by
  obtain ⟨k, f, t⟩ := r
  dsimp only
  have HB := Lib.hid ((Below.refl w.heap.size w).alloc (Nat.le_refl _) (.cells #[.int .i64 k, .int .i64 f, .string t] 23 (0, 0)))
  obtain ⟨R, hR⟩ : ∃ R, R = rtB ⟨k, f, t⟩ := ⟨_, rfl⟩
  rw [← hR]
  have E := Lib.hid hR
  clear hR
  by_cases f0 : f < 0
  · have E1 : Hid (R = false) := by unfold Hid; rw [E.out]; simp [rtB]; intros; omega
    clear E
    rw [E1.out]
    go_enter Try.func9, Try.ntmps9
    go_wp2_with fail
    go_ret
    exact ⟨rfl, HB.out⟩
  · by_cases f8 : f < 8
    · rcases kinds k with rfl | rfl | rfl | rfl | rfl | ⟨k0, k1, k2, k3, k4⟩
      · have E1 : Hid (R = t.toList.isEmpty) := by unfold Hid; rw [E.out]; simp [rtB]; intros; omega
        clear E
        rw [E1.out]
        go_enter Try.func9, Try.ntmps9
        go_wp2_with fail
        go_ret
        exact ⟨rfl, HB.out⟩
      · have E1 : Hid (R = t.toList.isEmpty) := by unfold Hid; rw [E.out]; simp [rtB]; intros; omega
        clear E
        rw [E1.out]
        go_enter Try.func9, Try.ntmps9
        go_wp2_with fail
        go_ret
        exact ⟨rfl, HB.out⟩
      · have E1 : Hid (R = t.toList.isEmpty) := by unfold Hid; rw [E.out]; simp [rtB]; intros; omega
        clear E
        rw [E1.out]
        go_enter Try.func9, Try.ntmps9
        go_wp2_with fail
        go_ret
        exact ⟨rfl, HB.out⟩
      · have E1 : Hid (R = true) := by unfold Hid; rw [E.out]; simp [rtB]; omega
        clear E
        rw [E1.out]
        go_enter Try.func9, Try.ntmps9
        go_wp2_with fail
        go_ret
        exact ⟨rfl, HB.out⟩
      · have E1 : Hid (R = true) := by unfold Hid; rw [E.out]; simp [rtB]; omega
        clear E
        rw [E1.out]
        go_enter Try.func9, Try.ntmps9
        go_wp2_with fail
        go_ret
        exact ⟨rfl, HB.out⟩
      · have E1 : Hid (R = false) := by unfold Hid; rw [E.out]; simp [rtB]; intros; omega
        clear E
        rw [E1.out]
        go_enter Try.func9, Try.ntmps9
        go_wp2_with fail
        go_ret
        exact ⟨rfl, HB.out⟩
    · have E1 : Hid (R = false) := by unfold Hid; rw [E.out]; simp [rtB]; intros; omega
      clear E
      rw [E1.out]
      go_enter Try.func9, Try.ntmps9
      go_wp2_with fail
      go_ret
      exact ⟨rfl, HB.out⟩
end Go.Proofs.Ytfmjlgplcepomaa
