/-
  url.Get.
-/
import Derived.Test.YtnnmbpghkflepaaDoorSame
namespace Go.Proofs.YtnnmbpghkflepaaDoor
open Go.RowKit Go.PlainAid
set_option maxRecDepth 100000

theorem gt_at (q : List Pr) (n : ByteArray) (k : Nat) (h : k < q.length) (ha : (q.take k).all (fun x => decide (¬ x.1 = n)) = true) (he : (q.getD k default).1 = n) : gtS q n = (q.getD k default).2 ∧ gtB q n = true := by
  have e : gtF q n = some (q.getD k default).2 := by
    rw [gtF]
    conv => lhs; rw [← List.take_append_drop k q]
    rw [List.find?_append, List.find?_eq_none.2 ?_, Option.none_or, List.drop_eq_getElem_cons h, List.find?_cons_of_pos]
    · simp [List.getD, h]
    · simp only [List.getD, List.getElem?_eq_getElem h, Option.getD_some] at he
      exact decide_eq_true he
    · intro x hx
      rw [List.all_eq_true] at ha
      have := of_decide_eq_true (ha x hx)
      simpa using this
  rw [gtS, gtB, e]
  exact ⟨rfl, rfl⟩
theorem gt_none (q : List Pr) (n : ByteArray) (ha : q.all (fun x => decide (¬ x.1 = n)) = true) : gtS q n = ⟨#[]⟩ ∧ gtB q n = false := by
  have e : gtF q n = none := by
    rw [gtF, List.find?_eq_none.2 ?_]
    · rfl
    · intro x hx
      rw [List.all_eq_true] at ha
      have := of_decide_eq_true (ha x hx)
      simpa using this
  rw [gtS, gtB, e]
  exact ⟨rfl, rfl⟩

set_option maxHeartbeats 1600000 in
theorem get45 (v1 v2 : Value) (p : List ByteArray) (q : List Pr) (n : ByteArray) (w : World) (h1 : Ss w v1 p) (h2 : Ps w v2 q) (hz : q.length ≤ 1000000000) :
    Calls Tryd.prog 40 #[.agg #[v1, v2], .string n] w fun e w' => e = .returned (.tuple #[.string (gtS q n), .bool (gtB q n)]) ∧ Below w.heap.size w w' := by
  obtain ⟨A1, n1, c1, rfl⟩ := h1.shape
  clear h1
  obtain ⟨A2, c2, rfl, _, _, hc⟩ := h2
  have HC := Lib.hid hc
  clear hc
  have HK := Lib.hid (blk_new w (.cells #[.slice A1 n1 c1, .slice A2 q.length c2] 76 (0, 0)))
  have HB := Lib.hid ((Below.refl w.heap.size w).alloc (Nat.le_refl _) (.cells #[.slice A1 n1 c1, .slice A2 q.length c2] 76 (0, 0)))
  go_enter Tryd.func40, Tryd.ntmps40
  go_wp2_with fail
  generalize w.alloc (.cells #[.slice A1 n1 c1, .slice A2 q.length c2] 76) = w5 at *
  have hsz := HB.out.size
  have hlt5 := blk_lt HK.out
  go_loopw [11] (fun i wr => ∃ (k : Nat), k ≤ q.length ∧ i = .int .i64 k ∧ (q.take k).all (fun x => decide (¬ x.1 = n)) = true ∧ Below w5.heap.size w5 wr) (fun i _ => q.length - (intOf i).toNat)
  case atStart => exact ⟨0, Nat.zero_le _, rfl, by simp, Below.refl _ _⟩
  case round =>
    obtain ⟨k, hk, rfl, hall, hB6⟩ := hrel
    have HA := Lib.hid hall
    have H6 := Lib.hid hB6
    clear hall hB6
    by_cases hlt : k < q.length
    · obtain ⟨b, o, rfl, hcell, hcelb⟩ := HC.out k hlt
      have g1 : wr.cell? ⟨b, o + k * 2, none⟩ = some (.string (q.getD k default).1) := by
        have hl := World.block_lt_of_cell? _ _ hcell
        rw [H6.out.cell (show b < w5.heap.size by have : b < w.heap.size := hl; omega), HB.out.cell hl]; exact hcell
      have g2 : wr.cell? ⟨b, o + k * 2 + 1, none⟩ = some (.string (q.getD k default).2) := by
        have hl := World.block_lt_of_cell? _ _ hcelb
        rw [H6.out.cell (show b < w5.heap.size by have : b < w.heap.size := hl; omega), HB.out.cell hl]; exact hcelb
      have c0 : (k : Int) < (q.length : Int) := by omega
      have HL := Lib.hid (all_next (fun x : Pr => decide (¬ x.1 = n)) q k hlt)
      have HQ := Lib.hid (gt_at q n k hlt HA.out)
      clear hcell hcelb
      generalize q.getD k default = x at *
      obtain ⟨x, y⟩ := x
      simp only at g1 g2
      have hsz6 := H6.out.size
      by_cases hx : x = n
      · have q1 := str_beq x n hx
        obtain ⟨e1, e2⟩ := HQ.out hx
        have E1 := Lib.hid e1
        have E2 := Lib.hid e2
        clear e1 e2 hx
        go_wp2
        rw [E1.out, E2.out]
        go_ret2
        exact ⟨rfl, HB.out.trans ((H6.out.alloc (by omega) _).mono hsz)⟩
      · have q1 := str_bne x n hx
        have HX := Lib.hid hx
        clear hx
        go_wp2_with fail
        go_roundw
        case rel => exact ⟨k + 1, by omega, by go_num, by rw [HL.out, HA.out, Bool.true_and]; exact decide_eq_true HX.out, H6.out.alloc (by omega) _⟩
        case measure => simp [intOf]; omega
    · obtain rfl : k = q.length := by omega
      obtain ⟨e1, e2⟩ := gt_none q n (by simpa using HA.out)
      have E1 := Lib.hid e1
      have E2 := Lib.hid e2
      clear e1 e2
      go_wp2
      rw [E1.out, E2.out]
      go_ret2
      exact ⟨rfl, HB.out.trans (H6.out.mono hsz)⟩
end Go.Proofs.YtnnmbpghkflepaaDoor
