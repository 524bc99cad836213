/-
  rule.All, porticobook.Within; chapter 9's runs.
-/
import Derived.Test.YtfmjlgplcepomaaAsk
import Derived.Deep.CutBlock
import Derived.Deep.DeepCutAuto
namespace Go.Proofs.Ytfmjlgplcepomaa
open Go.RowKit Go.PlainAid
set_option maxRecDepth 100000

/-- what all say: the first that isn't Pass, and its place -/
def AllP (n : Nat) (sy : Nat → Int) (tx : Nat → ByteArray) (a : Int) (x : ByteArray) (p : Int) : Prop :=
  (p = -1 ∧ a = 0 ∧ x = ⟨#[]⟩ ∧ ∀ i, i < n → sy i = 0) ∨ ∃ i : Nat, i < n ∧ p = (i : Int) ∧ a = sy i ∧ x = tx i ∧ sy i ≠ 0 ∧ ∀ j, j < i → sy j = 0
theorem AllP.uniq {n : Nat} {sy : Nat → Int} {tx : Nat → ByteArray} {a b : Int} {x y : ByteArray} {p q : Int} (h : AllP n sy tx a x p) (k : AllP n sy tx b y q) : a = b ∧ x = y ∧ p = q := by
  rcases h with ⟨rfl, rfl, rfl, h⟩ | ⟨i, hi, rfl, rfl, rfl, h1, h2⟩
  · rcases k with ⟨rfl, rfl, rfl, k⟩ | ⟨j, hj, rfl, rfl, rfl, k1, k2⟩
    · exact ⟨rfl, rfl, rfl⟩
    · exact absurd (h j hj) k1
  · rcases k with ⟨rfl, rfl, rfl, k⟩ | ⟨j, hj, rfl, rfl, rfl, k1, k2⟩
    · exact absurd (k i hi) h1
    · have : i = j := by
        rcases Nat.lt_trichotomy i j with h | h | h
        · exact absurd (k2 i h) h1
        · exact h
        · exact absurd (h2 j h) k1
      subst this
      exact ⟨rfl, rfl, rfl⟩

/-- what the rules say by these flags -/
def syF (gr : Nat → Rl) (n : Nat) (g : Nat → Bool) (i : Nat) : Int := sayI (gr i).k (stB n g (gr i).f)
def txF (gr : Nat → Rl) (n : Nat) (g : Nat → Bool) (i : Nat) : ByteArray := toT (gr i).k (stB n g (gr i).f) (gr i).t
def AllPost (m : Nat) (gr : Nat → Rl) (n : Nat) (g : Nat → Bool) (w : World) (e : Ending) (w' : World) : Prop :=
  ∃ a x p, e = .returned (.tuple #[.int .i64 a, .string x, .int .i64 p]) ∧ AllP m (syF gr n g) (txF gr n g) a x p ∧ Below w.heap.size w w'

theorem AskPost_eq (r : Rl) (n : Nat) (g : Nat → Bool) (w : World) : AskPost r n g w = fun e w' => e = .returned (.tuple #[.int .i64 (sayI r.k (stB n g r.f)), .string (toT r.k (stB n g r.f) r.t)]) ∧ Below w.heap.size w w' := rfl
set_option maxHeartbeats 3200000 in
theorem all10 (v u : Value) (m n : Nat) (gr : Nat → Rl) (g : Nat → Bool) (w : World) (h : Rs w v m gr) (hz : m ≤ 1000) (k : Bs w u n g) :
    Calls Try.prog 10 #[v, u] w (AllPost m gr n g w) := by
  have HR := Lib.hid h
  have HS := Lib.hid k
  obtain ⟨A, c, rfl⟩ := h.shape
  obtain ⟨A2, c2, rfl⟩ := k.shape
  clear h k
  go_enter Try.func10, Try.ntmps10
  go_wp2_with fail
  go_loopw [13] (fun s wr => ∃ k : Nat, k ≤ m ∧ s = .int .i64 k ∧ Hid (Below w.heap.size w wr) ∧ Hid (∀ i, i < k → syF gr n g i = 0)) (fun s _ => m - (intOf s).toNat)
  case atStart => exact ⟨0, Nat.zero_le _, rfl, Below.refl _ _, fun i hi => by omega⟩
  case round =>
    obtain ⟨k, hk, rfl, HB, HP⟩ := hrel
    by_cases hlt : k < m
    · have d0 : (k : Int) < (m : Int) := by omega
      obtain ⟨A', c', e', _, _, h4⟩ := HR.out.call HB.out
      cases e'
      obtain ⟨b, o, rfl, hat⟩ := h4 k hlt
      have E : Hid (syF gr n g k = sayI (gr k).k (stB n g (gr k).f) ∧ txF gr n g k = toT (gr k).k (stB n g (gr k).f) (gr k).t) := ⟨rfl, rfl⟩
      clear h4
      generalize gr k = r at *
      obtain ⟨g0, g1, g2⟩ := hat
      have HB1 := Lib.hid (HB.out.alloc HB.out.size (.cells #[.int .i64 r.k, .int .i64 r.f, .string r.t] 23 (0, 0)))
      have HS1 := Lib.hid (HS.out.call HB1.out)
      go_upto_region 4 with fail
      have c0 : (wr.alloc (.cells #[.int .i64 r.k, .int .i64 r.f, .string r.t] 23 (0, 0))).cell? ⟨wr.heap.size, 0, none⟩ = some (.int .i64 r.k) := blk_cell (blk_new wr _) 0
      have c1 : (wr.alloc (.cells #[.int .i64 r.k, .int .i64 r.f, .string r.t] 23 (0, 0))).cell? ⟨wr.heap.size, 1, none⟩ = some (.int .i64 r.f) := blk_cell (blk_new wr _) 1
      have c2' : (wr.alloc (.cells #[.int .i64 r.k, .int .i64 r.f, .string r.t] 23 (0, 0))).cell? ⟨wr.heap.size, 2, none⟩ = some (.string r.t) := blk_cell (blk_new wr _) 2
      generalize wr.alloc (.cells #[.int .i64 r.k, .int .i64 r.f, .string r.t] 23 (0, 0)) = w1 at *
      have HA := Lib.hid (ask7 r _ n g w1 HS1.out)
      obtain ⟨he1, he2⟩ := E.out
      rw [AskPost_eq, ← he1, ← he2] at HA
      clear he1 he2 g0 g1 g2
      by_cases hs : syF gr n g k = 0
      · rw [hs] at HA
        have HS := Lib.hid hs
        clear hs
        go_wp2_with (first | (go_at_call 7; refine HA.out.mono ?_; rintro e w2 ⟨rfl, hb2⟩; have HB2 := Lib.hid (HB1.out.trans (hb2.mono HB1.out.size)); clear hb2))
        go_roundw
        case rel => exact ⟨k + 1, by omega, by go_num, HB2.out, fun i hi => (by rcases Nat.lt_succ_iff_lt_or_eq.1 hi with h | h; exact HP.out i h; rw [h]; exact HS.out)⟩
        case measure => simp [intOf]; omega
      · have HS := Lib.hid hs
        have d1 : (syF gr n g k == 0) = false := by simpa using hs
        go_wp2_with (first | (go_at_call 7; refine HA.out.mono ?_; rintro e w2 ⟨rfl, hb2⟩; have HB2 := Lib.hid (HB1.out.trans (hb2.mono HB1.out.size)); clear hb2))
        go_ret3
        exact ⟨_, _, _, rfl, Or.inr ⟨k, hlt, rfl, rfl, rfl, HS.out, HP.out⟩, HB2.out⟩
    · obtain rfl : k = m := by omega
      go_wp2_with fail
      go_ret3
      exact ⟨_, _, _, rfl, Or.inl ⟨rfl, rfl, rfl, HP.out⟩, HB.out⟩

def wi (n h : Int) : Int := if n.tmod (h + 1) < 0 then n.tmod (h + 1) + h + 1 else n.tmod (h + 1)
theorem wi_in (n h : Int) (h0 : 0 ≤ h) : 0 ≤ wi n h ∧ wi n h ≤ h := by
  have b1 := Int.tmod_lt_of_pos n (show 0 < h + 1 by omega)
  have b2 := Int.lt_tmod_of_pos n (show 0 < h + 1 by omega)
  unfold wi
  split <;> omega
set_option maxHeartbeats 400000 in
theorem within_any (n h : Int) (w : World) (h0 : 0 ≤ h) (h1 : h ≤ 100000) :
    Calls Try.prog 11 #[.int .i64 n, .int .i64 0, .int .i64 h] w fun e w' => e = .returned (.int .i64 (wi n h)) ∧ w = w' := by
  have b1 := Int.tmod_lt_of_pos n (show 0 < h + 1 by omega)
  have b2 := Int.lt_tmod_of_pos n (show 0 < h + 1 by omega)
  by_cases hneg : n.tmod (h + 1) < 0
  · have hw : Hid (wi n h = n.tmod (h + 1) + h + 1) := by unfold Hid wi; rw [if_pos hneg]
    go_enter Try.func11, Try.ntmps11
    go_wp2
    go_ret
    exact ⟨by rw [hw.out]; rfl, rfl⟩
  · have hw : Hid (wi n h = n.tmod (h + 1)) := by unfold Hid wi; rw [if_neg hneg]
    go_enter Try.func11, Try.ntmps11
    go_wp2
    go_ret
    exact ⟨by rw [hw.out]; rfl, rfl⟩
theorem within11 (n : Int) (h : Nat) (w : World) (h1 : h ≤ 100000) :
    Calls Try.prog 11 #[.int .i64 n, .int .i64 0, .int .i64 h] w fun e w' => ∃ r : Nat, r ≤ h ∧ e = .returned (.int .i64 r) ∧ w' = w := by
  refine (within_any n h w (by omega) (by omega)).mono ?_
  rintro e w' ⟨rfl, rfl⟩
  have := wi_in n h (by omega)
  exact ⟨(wi n h).toNat, by omega, by rw [Int.toNat_of_nonneg this.1], rfl⟩
end Go.Proofs.Ytfmjlgplcepomaa
