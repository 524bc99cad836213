import Derived.Test.YtnnmbpghkflepaaGreatDoorOwn
import Derived.Deep.RegionHeld3
import Derived.Deep.RegionLaw
namespace Go.Proofs.YtnnmbpghkflepaaGreatDoor
open Go.RowKit Go.PlainAid
set_option maxRecDepth 100000

theorem enc_next (s : ByteArray) (k : Nat) (h : k < s.size) : encL ((bs s).take (k + 1)) = encL ((bs s).take k) ++ encI (bt s k) := by
  rw [← bs_at]
  have h' : k < (bs s).length := by rw [bs_len]; exact h
  rw [List.take_add_one, encL_append]
  simp [List.getD, h', encL]
theorem enc_all (s : ByteArray) : encL ((bs s).take s.size) = encL (bs s) := by rw [List.take_of_length_le (by rw [bs_len]; omega)]
theorem enc_len (s : ByteArray) (k : Nat) : (encL ((bs s).take k)).length ≤ 3 * s.size := by
  have := encL_len ((bs s).take k)
  rw [List.length_take, bs_len] at this
  omega

theorem and15 (c : Int) (h0 : 0 ≤ c) (h1 : c ≤ 255) : bits BinOp.and IntKind.u8 c 15 = c % 16 := by
  rw [u8_and _ _ h0 (by omega) (by omega) (by omega)]
  have : (15 : Int).toNat = 15 := rfl
  rw [this, nat_mask4]
  omega
theorem dig_at (n : Int) (h : 0 ≤ n ∧ n < 16) : bt ⟨#[48, 49, 50, 51, 52, 53, 54, 55, 56, 57, 65, 66, 67, 68, 69, 70]⟩ n.toNat = dg n := by
  obtain ⟨m, rfl⟩ := Int.eq_ofNat_of_zero_le h.1
  have hm : m < 16 := by omega
  have key : ∀ m : Fin 16, bt ⟨#[48, 49, 50, 51, 52, 53, 54, 55, 56, 57, 65, 66, 67, 68, 69, 70]⟩ m.val = dg (m.val : Int) := by decide
  exact key ⟨m, hm⟩

set_option maxHeartbeats 1600000 in
theorem encodeP (s : ByteArray) (w : World) (hs : s.size ≤ 100000000) : Calls Tryz.prog 99 #[.string s] w fun e w' => e = .returned (.string (encS s)) ∧ Below w.heap.size w w' := by
  have gb := get_bt s
  go_enter Tryz.func99, Tryz.ntmps99
  go_wp2_with (at_make; refine wpList_mk _ rfl _ _ rfl _ s.size rfl rfl rfl (by omega) ?_)
  intro v0 w0 h0
  have H0 := Lib.hid h0
  clear h0
  go_wp2_with fail
  go_loopw [3, 11] (fun v i wr => ∃ k : Nat, k ≤ s.size ∧ i = .int .i64 k ∧ Own w.heap.size w v (encL ((bs s).take k)) wr) (fun _ i _ => s.size - (intOf i).toNat)
  case atStart => exact ⟨0, Nat.zero_le _, rfl, H0.out⟩
  case round =>
    obtain ⟨k, hk, rfl, hown⟩ := hrel
    have HO := Lib.hid hown
    clear hown
    have eb : Hid ((encL ((bs s).take k)).length ≤ 1000000000) := by have := enc_len s k; show _ ≤ _; omega
    by_cases hlt : k < s.size
    · have c0 : (k : Int) < (s.size : Int) := by omega
      by_cases hp : pl (bt s k) = true
      · go_wp2_with (first | (go_at_call 109; refine (plainP _ _).mono ?_; rintro e w' ⟨rfl, rfl⟩; rw [hp]) | (at_builtin; refine wpList_app _ rfl (.tmp 19) (.tmp 21) rfl w.heap.size w _ _ rfl (HO.out.alloc _) ?b1 wr.heap.size 1 1 [bt s k] rfl rfl (by omega) (heap_alloc_new _ _) ?_))
        case b1 => exact eb.out
        intro v1 w1 h1
        have H1 : Hid (Own w.heap.size w v1 (encL ((bs s).take (k + 1))) w1) := by rw [enc_next s k hlt, encI, if_pos hp]; exact h1
        clear h1
        go_wp2_with fail
        go_roundw
        case rel => exact ⟨k + 1, by omega, by go_num, H1.out⟩
        case measure => simp [intOf]; omega
      · have hp : pl (bt s k) = false := by simpa using hp
        go_wp2_with (first | (go_at_call 109; refine (plainP _ _).mono ?_; rintro e w' ⟨rfl, rfl⟩; rw [hp]))
        have gd := get_bt ⟨#[48, 49, 50, 51, 52, 53, 54, 55, 56, 57, 65, 66, 67, 68, 69, 70]⟩
        have q0 := bt_nonneg s k
        have q1 := bt_le s k
        have a1 : bits BinOp.and IntKind.u8 (bt s k) 15 = bt s k % 16 := and15 _ q0 q1
        have a2 : 0 ≤ bt s k / 16 ∧ bt s k / 16 < 16 := by omega
        have a3 : 0 ≤ bt s k % 16 ∧ bt s k % 16 < 16 := by omega
        have a4 := dig_at (bt s k / 16) a2
        have a5 := dig_at (bt s k % 16) a3
        go_region_law (refine step_app _ (by rfl) (.tmp 23) (.tmp 30) rfl w.heap.size w _ _ rfl ((HO.out.alloc _).drew) eb.out wr.heap.size 3 3 [37, dg (bt s k / 16), dg (bt s k % 16)] rfl rfl (by omega) (heap_alloc_new _ _) ?_; intro v1 w1 h1; have H1 := Lib.hid h1; clear h1)
        all_goals
          go_wp2_with fail
          go_roundw
          case rel => exact ⟨k + 1, by omega, by go_num, by rw [enc_next s k hlt, encI, if_neg (by simp [hp])]; exact H1.out⟩
          case measure => simp [intOf]; omega
    · obtain rfl : k = s.size := by omega
      have hcv := own_text HO.out
      rw [enc_all] at hcv
      go_wp2
      go_ret
      exact ⟨rfl, HO.out.2.1⟩
end Go.Proofs.YtnnmbpghkflepaaGreatDoor
