/-
  url.split.
-/
import Derived.Test.YtcppccpglcolnaaRowsOf
import Derived.Deep.RegionHeld3
import Derived.Deep.RegionLaw
namespace Go.Proofs.Ytcppccpglcolnaa
open Go.RowKit Go.PlainAid

/-- the pieces, if there are no more than so many -/
def splM (m : Int) (M : Nat) (s : ByteArray) : List ByteArray := if (spl m s).length ≤ M then spl m s else []
def splB (m : Int) (M : Nat) (s : ByteArray) : Bool := decide ((spl m s).length ≤ M)

set_option maxHeartbeats 1600000 in
theorem split23 (s : ByteArray) (m : Int) (M : Nat) (w : World) (hs : s.size ≤ 10000) (hM : 1 ≤ M ∧ M ≤ 100) :
    Calls Try.prog 23 #[.string s, .int .u8 m, .int .i64 M] w fun e w' => ∃ v, e = .returned (.tuple #[v, .bool (splB m M s)]) ∧ OwnS w.heap.size w v (splM m M s) w' := by
  have gb := get_bt s
  go_enter Try.func23, Try.ntmps23
  go_wp2_with fail
  go_loopw [8, 9, 14] (fun v st i wr => ∃ (a k : Nat) (P : List ByteArray), k ≤ s.size ∧ st = .int .i64 a ∧ i = .int .i64 k ∧ SpMid s m a k P ∧ P.length < M ∧ OwnS w.heap.size w v P wr) (fun _ _ i _ => s.size - (intOf i).toNat)
  case atStart => exact ⟨0, 0, [], Nat.zero_le _, rfl, rfl, spm_zero s m, by simp; omega, empS _ _ _ (Below.refl _ _) (Nat.le_refl _)⟩
  case round =>
    obtain ⟨a, k, P, hk, rfl, rfl, hmid, hPM, hown⟩ := hrel
    have HO := Lib.hid hown
    have HM := Lib.hid hmid
    have hak : a ≤ k := hmid.1
    clear hown hmid
    have eb : Hid (P.length ≤ 100000) := by show _ ≤ _; omega
    have c1 : (a : Int) ≤ (k : Int) := by omega
    have c2 : (k : Int) ≤ (s.size : Int) := by omega
    by_cases hlt : k < s.size
    · have c0 : (k : Int) < (s.size : Int) := by omega
      by_cases hm : bt s k = m
      · have q1 : (bt s k == m) = true := by simpa using hm
        have HM1 := Lib.hid (spm_mark HM.out hlt hm)
        go_wp2_with (first | (at_builtin; refine wpList_appS _ rfl (.tmp 22) (.tmp 27) rfl w.heap.size w _ _ rfl (HO.out.alloc _) ?b1 wr.heap.size 1 1 [s.extract a k] rfl rfl (by omega) (heap_alloc_new _ _) ?_))
        case b1 => exact eb.out
        intro v1 w1 h1 _ _
        obtain ⟨A, cap, hv, _⟩ := h1.ss
        have H1 := Lib.hid h1
        clear h1
        have hl : (P ++ [s.extract a k]).length = P.length + 1 := by simp
        rw [hl] at hv
        clear hl
        subst hv
        by_cases hq : P.length + 1 = M
        · have q2 : ((P.length : Int) + 1 == (M : Int)) = true := by simp; omega
          have q3 : (P.length : Int) + 1 = (M : Int) := by omega
          have hd : splB m M s = false ∧ splM m M s = [] := by
            have := spm_len HM1.out
            rw [List.length_append, List.length_singleton] at this
            exact ⟨decide_eq_false (by omega), if_neg (by omega)⟩
          go_wp2
          rw [hd.1, hd.2]
          go_ret2
          exact ⟨_, rfl, nilS _ _ _ H1.out.2.1 H1.out.2.2⟩
        · have q2 : ((P.length : Int) + 1 == (M : Int)) = false := by simp; omega
          have q3 : ¬ (P.length : Int) + 1 = (M : Int) := by omega
          go_wp2_with fail
          go_roundw
          case rel => exact ⟨k + 1, k + 1, P ++ [s.extract a k], by omega, by go_num, by go_num, HM1.out, by simp; omega, H1.out⟩
          case measure => simp [intOf]; omega
      · have q1 : (bt s k == m) = false := by simpa using hm
        have HM1 := Lib.hid (spm_skip HM.out hlt hm)
        go_wp2_with fail
        go_roundw
        case rel => exact ⟨a, k + 1, P, by omega, rfl, by go_num, HM1.out, hPM, HO.out⟩
        case measure => simp [intOf]; omega
    · obtain rfl : k = s.size := by omega
      have he := spm_end HM.out
      have hd : splB m M s = true ∧ splM m M s = P ++ [s.extract a s.size] := by
        have e2 : (spl m s).length ≤ M := by rw [he]; simp; omega
        exact ⟨decide_eq_true e2, by rw [splM, if_pos e2, he]⟩
      have HD := Lib.hid hd
      clear hd he
      go_wp2_with (first | (at_builtin; refine wpList_appS _ rfl (.tmp 36) (.tmp 40) rfl w.heap.size w _ _ rfl (HO.out.alloc _) ?b1 wr.heap.size 1 1 [s.extract a s.size] rfl rfl (by omega) (heap_alloc_new _ _) ?_))
      case b1 => exact eb.out
      intro v1 w1 h1 _ _
      have H1 := Lib.hid h1
      clear h1
      go_wp2
      rw [HD.out.1, HD.out.2]
      go_ret2
      exact ⟨_, rfl, H1.out⟩
end Go.Proofs.Ytcppccpglcolnaa
