/-
  porticobook.Within; porticokeep's Words, pick.
-/
import Derived.Test.YtnnmbpghkflepaaGreatDoorBase
import Derived.Deep.RegionHeld3
namespace Go.Proofs.YtnnmbpghkflepaaGreatDoor
open Go.RowKit Go.PlainAid
set_option maxRecDepth 100000

def wi (n h : Int) : Int := if n.tmod (h + 1) < 0 then n.tmod (h + 1) + h + 1 else n.tmod (h + 1)
theorem wi_in (n h : Int) (h0 : 0 ≤ h) : 0 ≤ wi n h ∧ wi n h ≤ h := by
  have b1 := Int.tmod_lt_of_pos n (show 0 < h + 1 by omega)
  have b2 := Int.lt_tmod_of_pos n (show 0 < h + 1 by omega)
  unfold wi
  split <;> omega

set_option maxHeartbeats 400000 in
theorem within_any (n h : Int) (w : World) (h0 : 0 ≤ h) (h1 : h ≤ 100000) :
    Calls Tryz.prog 26 #[.int .i64 n, .int .i64 0, .int .i64 h] w fun e w' => e = .returned (.int .i64 (wi n h)) ∧ w = w' := by
  have b1 := Int.tmod_lt_of_pos n (show 0 < h + 1 by omega)
  have b2 := Int.lt_tmod_of_pos n (show 0 < h + 1 by omega)
  by_cases hneg : n.tmod (h + 1) < 0
  · have hw : Hid (wi n h = n.tmod (h + 1) + h + 1) := by unfold Hid wi; rw [if_pos hneg]
    go_enter Tryz.func26, Tryz.ntmps26
    go_wp2
    go_ret
    exact ⟨by rw [hw.out]; rfl, rfl⟩
  · have hw : Hid (wi n h = n.tmod (h + 1)) := by unfold Hid wi; rw [if_neg hneg]
    go_enter Tryz.func26, Tryz.ntmps26
    go_wp2
    go_ret
    exact ⟨by rw [hw.out]; rfl, rfl⟩
theorem within19 (n : Int) (h : Nat) (w : World) (h1 : h ≤ 100000) :
    Calls Tryz.prog 26 #[.int .i64 n, .int .i64 0, .int .i64 h] w fun e w' => ∃ r : Nat, r ≤ h ∧ e = .returned (.int .i64 r) ∧ w' = w := by
  refine (within_any n h w (by omega) (by omega)).mono ?_
  rintro e w' ⟨rfl, rfl⟩
  have := wi_in n h (by omega)
  exact ⟨(wi n h).toNat, by omega, by rw [Int.toNat_of_nonneg this.1], rfl⟩

def wordsL : List ByteArray := [⟨#[97]⟩, ⟨#[98]⟩, ⟨#[105, 116, 101, 109]⟩, ⟨#[120, 32, 121]⟩, ⟨#[37]⟩, ⟨#[97, 47, 98]⟩, ⟨#[46, 46]⟩, ⟨#[122]⟩, ⟨#[49]⟩, ⟨#[108, 105, 115, 116]⟩, ⟨#[255]⟩, ⟨#[63, 61, 38]⟩]
set_option maxHeartbeats 400000 in
theorem words18 (w : World) : Calls Tryz.prog 29 #[] w fun e w' => e = .returned (.slice (some ⟨w.heap.size, 0, none⟩) 12 12) ∧ w' = w.alloc (.cells (wordsL.map Value.string).toArray 9 (0, 0)) := by
  go_enter Tryz.func29, Tryz.ntmps29
  go_wp2
  go_ret
  exact ⟨rfl, rfl⟩

/-- numbers that came in -/
def Ia (w : World) (A : Option Addr) (n : Nat) (f : Nat → Int) : Prop := n ≤ 9223372036854775807 ∧ ∀ i, i < n → ∃ b o, A = some ⟨b, o, none⟩ ∧ w.cell? ⟨b, o + i, none⟩ = some (.int .i64 (f i))
theorem Ia.call {w w' : World} {A : Option Addr} {n : Nat} {f : Nat → Int} (h : Ia w A n f) (hb : Below w.heap.size w w') : Ia w' A n f :=
  ⟨h.1, fun i hi => by obtain ⟨b, o, h1, h2⟩ := h.2 i hi; exact ⟨b, o, h1, by rw [hb.cell (World.block_lt_of_cell? _ _ h2)]; exact h2⟩⟩

set_option maxHeartbeats 400000 in
theorem pick30 (A : Option Addr) (n c : Nat) (f : Nat → Int) (i : Nat) (w : World) (h : Ia w A n f) :
    Calls Tryz.prog 28 #[.slice A n c, .int .i64 i] w fun e w' => ∃ x : Int, e = .returned (.int .i64 x) ∧ w' = w := by
  by_cases hn : n = 0
  · subst hn
    go_enter Tryz.func28, Tryz.ntmps28
    go_wp2
    go_ret
    exact ⟨0, rfl, rfl⟩
  · obtain ⟨m, hm⟩ : ∃ m, i % n = m := ⟨_, rfl⟩
    have hmn : m < n := by rw [← hm]; exact Nat.mod_lt _ (by omega)
    obtain ⟨b, o, rfl, hc⟩ := h.2 m hmn
    have hn1 := h.1
    have c0 : ((n : Int) == 0) = false := by simp; omega
    have c1 : (i : Int).tmod (n : Int) = (m : Int) := by rw [← hm]; rfl
    have c2 : ¬ (n : Int) = 0 := by omega
    have c3 : (m : Int) < (n : Int) := by omega
    go_enter Tryz.func28, Tryz.ntmps28
    go_wp2
    go_ret
    exact ⟨_, rfl, rfl⟩

theorem within_nat (n : Int) (h r : Nat) (w : World) (h1 : h ≤ 100000) (hr : wi n h = (r : Int)) :
    Calls Tryz.prog 26 #[.int .i64 n, .int .i64 0, .int .i64 h] w fun e w' => e = .returned (.int .i64 r) ∧ w' = w :=
  (within_any n h w (by omega) (by omega)).mono fun _ _ ⟨he, hw⟩ => ⟨by rw [he, hr], hw.symm⟩


def pickV (n : Nat) (f : Nat → Int) (i : Nat) : Int := if n = 0 then 0 else f (i % n)
set_option maxHeartbeats 400000 in
theorem pickV30 (A : Option Addr) (n c : Nat) (f : Nat → Int) (i : Nat) (pv : Int) (w : World) (h : Ia w A n f) (hp : pv = pickV n f i) :
    Calls Tryz.prog 28 #[.slice A n c, .int .i64 i] w fun e w' => e = .returned (.int .i64 pv) ∧ w' = w := by
  subst hp
  by_cases hn : n = 0
  · have hp : pickV n f i = 0 := by rw [pickV, if_pos hn]
    rw [hp]
    subst hn
    go_enter Tryz.func28, Tryz.ntmps28
    go_wp2
    go_ret
    exact ⟨rfl, rfl⟩
  · obtain ⟨m, hm⟩ : ∃ m, i % n = m := ⟨_, rfl⟩
    have hmn : m < n := by rw [← hm]; exact Nat.mod_lt _ (by omega)
    have hp : pickV n f i = f m := by rw [pickV, if_neg hn, hm]
    rw [hp]
    obtain ⟨b, o, rfl, hc⟩ := h.2 m hmn
    have hn1 := h.1
    have c0 : ((n : Int) == 0) = false := by simp; omega
    have c1 : (i : Int).tmod (n : Int) = (m : Int) := by rw [← hm]; rfl
    have c2 : ¬ (n : Int) = 0 := by omega
    have c3 : (m : Int) < (n : Int) := by omega
    go_enter Tryz.func28, Tryz.ntmps28
    go_wp2
    go_ret
    exact ⟨rfl, rfl⟩
end Go.Proofs.YtnnmbpghkflepaaGreatDoor
