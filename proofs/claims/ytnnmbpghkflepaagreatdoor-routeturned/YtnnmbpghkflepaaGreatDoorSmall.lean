/-
  Plain contracts of pct's and of the reference's small functions.
-/
import Derived.Test.YtnnmbpghkflepaaGreatDoorRows
import Derived.Test.YtnnmbpghkflepaaGreatDoorPure
import Derived.WalkKit
import Derived.WalkLawsBesides
import Derived.Lib.Hide
import Derived.PlainAid
import Derived.IntWalk
import Derived.Laws.BitsAllLaws
namespace Go.Proofs.YtnnmbpghkflepaaGreatDoor
open Go.RowKit Go.PlainAid
set_option maxRecDepth 100000

set_option maxHeartbeats 800000 in
theorem plainP (c : Int) (w : World) : Calls Tryz.prog 109 #[.int .u8 c] w fun e w' => e = .returned (.bool (pl c)) ∧ w = w' := by
  go_enter Tryz.func109, Tryz.ntmps109
  go_wp2
  all_goals first
    | (have hp : pl c = true := by (unfold pl; exact decide_eq_true (by omega))
       rw [hp]; go_ret; exact ⟨rfl, rfl⟩)
    | (have hp : pl c = (c == 45 || c == 46 || c == 95 || c == 126) := by (rw [Bool.eq_iff_iff]; simp [pl]; omega)
       rw [hp]; go_ret; exact ⟨rfl, rfl⟩)
    | (go_ret; exact ⟨rfl, rfl⟩)

set_option maxHeartbeats 800000 in
theorem plainR (c : Int) (w : World) : Calls Tryz.prog 76 #[.int .u8 c] w fun e w' => e = .returned (.bool (pl c)) ∧ w = w' := by
  go_enter Tryz.func76, Tryz.ntmps76
  go_wp2
  all_goals first
    | (have hp : pl c = true := by (unfold pl; exact decide_eq_true (by omega))
       rw [hp]; go_ret; exact ⟨rfl, rfl⟩)
    | (go_ret; exact ⟨rfl, rfl⟩)
    | (go_ret
       refine ⟨congrArg (fun b => Ending.returned (Value.bool b)) ?_, rfl⟩
       rw [Bool.eq_iff_iff]; simp [pl]; omega)

set_option maxHeartbeats 800000 in
theorem digitP (c : Int) (w : World) (h0 : 0 ≤ c) (h1 : c ≤ 255) : Calls Tryz.prog 116 #[.int .u8 c] w fun e w' => e = .returned (.tuple #[.int .u8 (hv c), .bool (hd c)]) ∧ w = w' := by
  go_enter Tryz.func116, Tryz.ntmps116
  go_wp2
  all_goals first
    | (obtain ⟨e1, e2⟩ := hvs (c := c) (x := c - 48) (by omega)
       rw [e1, e2]; go_ret2; exact ⟨rfl, rfl⟩)
    | (obtain ⟨e1, e2⟩ := hvs (c := c) (x := c - 65 + 10) (by omega)
       rw [e1, e2]; go_ret2; exact ⟨rfl, rfl⟩)
    | (obtain ⟨e1, e2⟩ := hvs (c := c) (x := c - 97 + 10) (by omega)
       rw [e1, e2]; go_ret2; exact ⟨rfl, rfl⟩)
    | (obtain ⟨e1, e2⟩ := hvn (c := c) (by omega)
       rw [e1, e2]; go_ret2; exact ⟨rfl, rfl⟩)

/-- the reference's hex -/
def hx (c : Int) : Int := if hd c then hv c else -1

set_option maxHeartbeats 800000 in
theorem hexR (c : Int) (w : World) (h0 : 0 ≤ c) (h1 : c ≤ 255) : Calls Tryz.prog 77 #[.int .u8 c] w fun e w' => e = .returned (.int .i64 (hx c)) ∧ w = w' := by
  go_enter Tryz.func77, Tryz.ntmps77
  go_wp2
  all_goals first
    | (obtain ⟨e1, e2⟩ := hvs (c := c) (x := c - 48) (by omega)
       rw [hx, e1, e2]; go_ret; exact ⟨rfl, rfl⟩)
    | (obtain ⟨e1, e2⟩ := hvs (c := c) (x := c - 65 + 10) (by omega)
       rw [hx, e1, e2]; go_ret; exact ⟨rfl, rfl⟩)
    | (obtain ⟨e1, e2⟩ := hvs (c := c) (x := c - 97 + 10) (by omega)
       rw [hx, e1, e2]; go_ret; exact ⟨rfl, rfl⟩)
    | (obtain ⟨e1, e2⟩ := hvn (c := c) (by omega)
       rw [hx, e2]; go_ret; exact ⟨rfl, rfl⟩)

/-- what next answers -/
def nxIs (t : ByteArray) : Bool := decide (bt t 0 = 37 ∧ 3 ≤ t.size ∧ hd (bt t 1) = true ∧ hd (bt t 2) = true)
def nxN (t : ByteArray) : Int := if pl (bt t 0) then 1 else if nxIs t then 3 else 0
def nxC (t : ByteArray) : Int := if pl (bt t 0) then bt t 0 else if nxIs t then hv (bt t 1) * 16 + hv (bt t 2) else 0

theorem or8 (a b : Int) (ha : 0 ≤ a ∧ a ≤ 15) (hb : 0 ≤ b ∧ b ≤ 15) : bits BinOp.or IntKind.u8 (a * 16 % 256) b = a * 16 + b := by
  rw [u8_or _ _ (by omega) (by omega) (by omega) (by omega), nat_join 4 _ _ (by omega) (by omega)]
  omega

set_option maxHeartbeats 1600000 in
theorem nextP (t : ByteArray) (w : World) (ht : 1 ≤ t.size) (hbig : t.size ≤ 1000000000) : Calls Tryz.prog 102 #[.string t] w fun e w' => e = .returned (.tuple #[.int .u8 (nxC t), .int .i64 (nxN t)]) ∧ w = w' := by
  have gb := get_bt t
  have p0 : 0 < t.size := by omega
  have q0 : (0 : Int) < (t.size : Int) := by omega
  have b1 := bt_nonneg t 1
  have b2 := bt_le t 1
  have b3 := bt_nonneg t 2
  have b4 := bt_le t 2
  go_enter Tryz.func102, Tryz.ntmps102
  go_wp2_with (first | (go_at_call 109; refine (plainP _ _).mono ?_; rintro e w' ⟨rfl, rfl⟩) | (go_at_call 116; refine (digitP _ _ (by assumption) (by assumption)).mono ?_; rintro e w' ⟨rfl, rfl⟩))
  all_goals first
    | (obtain ⟨e1, e2⟩ : nxC t = bt t 0 ∧ nxN t = 1 := by (have h : pl (bt t 0) = true := by assumption); simp [nxC, nxN, h]
       rw [e1, e2]; go_ret2; exact ⟨rfl, rfl⟩)
    | (obtain ⟨e1, e2⟩ : nxC t = 0 ∧ nxN t = 0 := by
         (have h : pl (bt t 0) = false := by assumption)
         (have h2 : nxIs t = false := by (unfold nxIs; refine decide_eq_false ?_; rintro ⟨a1, a2, a3, a4⟩; first | omega | (simp_all; done)))
         simp [nxC, nxN, h, h2]
       rw [e1, e2]; go_ret2; exact ⟨rfl, rfl⟩)
    | (obtain ⟨e1, e2⟩ : nxC t = bits BinOp.or IntKind.u8 (hv (bt t 1) * 16 % 256) (hv (bt t 2)) ∧ nxN t = 3 := by
         (have h : pl (bt t 0) = false := by assumption)
         (have h3 : (!hd (bt t 2)) = false := by assumption)
         (have h2 : nxIs t = true := by (unfold nxIs; exact decide_eq_true ⟨by assumption, by omega, by assumption, by simpa using h3⟩))
         rw [or8 _ _ (hv_bd _) (hv_bd _)]
         simp [nxC, nxN, h, h2]
       rw [e1, e2]; go_ret2; exact ⟨rfl, rfl⟩)
end Go.Proofs.YtnnmbpghkflepaaGreatDoor
