/-
  The law PctBack, walked.
-/
import Derived.Test.YthaabaifhcjpnaaRow
namespace Go.Proofs.Ythaabaifhcjpnaa
open Go.RowKit Go.PlainAid

/-- below B all is as it was -/
def Bl (B : Nat) (w wx : World) : Prop := Below B w wx ∧ B ≤ wx.heap.size
theorem Bl.refl (w : World) : Bl w.heap.size w w := ⟨Below.refl _ _, Nat.le_refl _⟩
theorem Bl.alloc {B : Nat} {w wx : World} (h : Bl B w wx) (o : Obj) : Bl B w (wx.alloc o) := ⟨h.1.alloc h.2 o, by have := h.2; simp; omega⟩
theorem Bl.drew {B : Nat} {w wx : World} (h : Bl B w wx) : Bl B w wx.drew := ⟨h.1.drew, h.2⟩
theorem Bl.call {B : Nat} {w wx wy : World} (h : Bl B w wx) (hb : Below wx.heap.size wx wy) : Bl B w wy := ⟨h.1.trans (hb.mono h.2), by have := hb.size; have := h.2; omega⟩
theorem Bl.setCell {B : Nat} {w wx : World} (h : Bl B w wx) (p : Addr) (hp : B ≤ p.block) (u : Value) : Bl B w (wx.setCell p u) := ⟨h.1.setCell hp u, by simpa using h.2⟩

theorem lo_ways (a : ByteArray) (k : Nat) : (bt a k < 65 ∧ loT a k = bt a k) ∨ (65 ≤ bt a k ∧ 70 < bt a k ∧ loT a k = bt a k) ∨ (65 ≤ bt a k ∧ bt a k ≤ 70 ∧ k = 0 ∧ loT a k = bt a k) ∨ (65 ≤ bt a k ∧ bt a k ≤ 70 ∧ 1 ≤ k ∧ bt a (k - 1) = 37 ∧ loT a k = bt a k + 32) ∨
    (65 ≤ bt a k ∧ bt a k ≤ 70 ∧ k = 1 ∧ bt a (k - 1) ≠ 37 ∧ loT a k = bt a k) ∨ (65 ≤ bt a k ∧ bt a k ≤ 70 ∧ 2 ≤ k ∧ bt a (k - 1) ≠ 37 ∧ bt a (k - 2) = 37 ∧ loT a k = bt a k + 32) ∨ (65 ≤ bt a k ∧ bt a k ≤ 70 ∧ 2 ≤ k ∧ bt a (k - 1) ≠ 37 ∧ bt a (k - 2) ≠ 37 ∧ loT a k = bt a k) := by
  unfold loT lo1
  by_cases h1 : 65 ≤ bt a k
  · by_cases h2 : bt a k ≤ 70
    · by_cases h3 : k = 0
      · subst h3
        simp
        omega
      · by_cases h4 : bt a (k - 1) = 37
        · simp [h4, show 1 ≤ k by omega]
          omega
        · by_cases h5 : k = 1
          · subst h5
            simp at h4 ⊢
            omega
          · simp [h4, show 1 ≤ k by omega, show 2 ≤ k by omega, show ¬ k = 0 by omega, show ¬ k = 1 by omega]
            omega
    · simp [h2]
      omega
  · simp [h1]
    omega

set_option maxHeartbeats 4000000 in
set_option maxRecDepth 100000 in
theorem back_any (s t c s' t' c' : ByteArray) (w : World) (k1 k2 k3 : Nat) (hif1 : (if (60 : Int) < (s.size : Int) then (60 : Int) else (s.size : Int)) = (k1 : Int)) (hif2 : (if (60 : Int) < (t.size : Int) then (60 : Int) else (t.size : Int)) = (k2 : Int)) (hif3 : (if (60 : Int) < (c.size : Int) then (60 : Int) else (c.size : Int)) = (k3 : Int))
    (a0 : (0 : Int) ≤ (k1 : Int)) (a1 : (k1 : Int) ≤ (s.size : Int)) (b0 : (0 : Int) ≤ (k2 : Int)) (b1 : (k2 : Int) ≤ (t.size : Int)) (c0 : (0 : Int) ≤ (k3 : Int)) (c1 : (k3 : Int) ≤ (c.size : Int))
    (hs : Hid (s.extract 0 k1 = s')) (ht : Hid (t.extract 0 k2 = t')) (hc : Hid (c.extract 0 k3 = c')) (hs2 : s'.size ≤ 60) (ht2 : t'.size ≤ 60) (hc2 : c'.size ≤ 60) :
    Calls Try.prog 5 #[.string s, .string t, .string c] w fun e w' => e = .returned (.bool true) ∧ Below w.heap.size w w' := by
  go_enter Try.func5, Try.ntmps5
  go_wp2_with fail
  go_region
  rw [hs.out, ht.out, hc.out]
  clear hif1 hif2 hif3 a0 a1 b0 b1 c0 c1 hs ht hc
  go_wp2_with fail
  refine (encode7 _ _ (by omega)).mono ?_
  rintro e w1 ⟨rfl, h1⟩
  have H1 : Hid (Bl w.heap.size w w1) := ((Bl.refl w).drew.call h1)
  clear h1
  go_wp2_with fail
  refine (encode7 _ _ (by omega)).mono ?_
  rintro e w2 ⟨rfl, h2⟩
  have H2 : Hid (Bl w.heap.size w w2) := (H1.out.call h2)
  clear h2 H1
  go_wp2_with fail
  have e1 := encS_size s'
  have e2 := encS_size t'
  refine (decode6 _ _ (by omega)).mono ?_
  rintro e w3 ⟨rfl, h3⟩
  have H3 : Hid (Bl w.heap.size w w3) := (H2.out.call h3)
  clear h3 H2
  rw [(decS_enc s').1, (decS_enc s').2]
  have hcv := fun w s => run_bytes_of_string (P := Try.prog) w 9 27 5 s Try.underlying9 Try.underlying27 Try.underlying5
  go_wp2_with fail
  have hcap := grownCap_ge w3 (encS s').size 0 5
  generalize grownCap w3 (encS s').size 0 5 = cap at *
  have HR := Lib.hid (Rw.new w3 (encS s') cap hcap)
  have HB : Hid (Bl w.heap.size w ((w3.alloc (.cells (bytesRow (encS s') cap) 5 ((bytesRow (encS s') cap).size, (bytesRow (encS s') cap).size + 1))).drew)) := (H3.out.alloc _).drew
  have HQ : Hid (w.heap.size ≤ w3.heap.size) := H3.out.2
  clear H3 hcap hcv
  generalize ha : encS s' = a at *
  generalize hb : encS t' = b at *
  generalize w3.heap.size = Q at *
  have HA := Lib.hid ha
  have HBB := Lib.hid hb
  clear ha hb
  have a180 : a.size ≤ 180 := by omega
  have b180 : b.size ≤ 180 := by omega
  clear e1 e2
  go_loopw [45] (fun i wr => ∃ k : Nat, k ≤ a.size ∧ i = .int .i64 k ∧ Bl w.heap.size w wr ∧ Rw Q a.size (fun j => if j < k then loT a j else bt a j) wr) (fun i _ => a.size - (intOf i).toNat)
  case atStart => exact ⟨0, by omega, rfl, HB.out, HR.out.congr (fun j _ => by simp)⟩
  case round =>
    obtain ⟨k, hk, rfl, hbl, hrw⟩ := hrel
    have HBL := Lib.hid hbl
    have HRW := Lib.hid hrw
    clear hbl hrw HR HB
    have gb := get_bt a
    by_cases hlt : k < a.size
    · have i0 : (k : Int) < (a.size : Int) := by omega
      have f0 : wr.cell? ⟨Q, k, none⟩ = some (.int .u8 (bt a k)) := by have := HRW.out.cell hlt; simpa using this
      have f1 := HRW.out.free hlt
      have q0 := bt_nonneg a k
      have q1 := bt_le a k
      have stay : loT a k = bt a k → Hid (Rw Q a.size (fun j => if j < k + 1 then loT a j else bt a j) wr) := fun e => HRW.out.congr (fun j _ => by
        by_cases h1 : j < k
        · simp [h1, show j < k + 1 by omega]
        · by_cases h2 : j = k
          · subst h2; simp [e]
          · simp [h1, show ¬ j < k + 1 by omega])
      have move : loT a k = bt a k + 32 → Hid (Rw Q a.size (fun j => if j < k + 1 then loT a j else bt a j) (wr.setCell ⟨Q, k, none⟩ (.int .u8 (bt a k + 32)))) := fun e => (HRW.out.set k (bt a k + 32)).congr (fun j _ => by
        by_cases h1 : j = k
        · subst h1; simp [e]
        · by_cases h2 : j < k
          · simp [h1, h2, show j < k + 1 by omega]
          · simp [h1, h2, show ¬ j < k + 1 by omega])
      have STAY := Lib.hid stay
      have MOVE := Lib.hid move
      clear stay move
      rcases lo_ways a k with ⟨g1, g2⟩ | ⟨g0, g1, g2⟩ | ⟨g0, g1, gk, g2⟩ | ⟨g0, g1, gk, g3, g2⟩ | ⟨g0, g1, gk, g3, g2⟩ | ⟨g0, g1, gk, g3, g4, g2⟩ | ⟨g0, g1, gk, g3, g4, g2⟩
      · have HN := STAY.out g2
        go_wp2_with fail
        go_roundw
        case rel => exact ⟨k + 1, by omega, by go_num, HBL.out, HN.out⟩
        case measure => simp [intOf]; omega
      · have HN := STAY.out g2
        go_wp2_with fail
        go_roundw
        case rel => exact ⟨k + 1, by omega, by go_num, HBL.out, HN.out⟩
        case measure => simp [intOf]; omega
      · have HN := STAY.out g2
        subst gk
        go_wp2_with fail
        go_roundw
        case rel => exact ⟨0 + 1, by omega, by go_num, HBL.out, HN.out⟩
        case measure => simp [intOf]; omega
      · have HN := MOVE.out g2
        have n0 : (0 : Int) < (k : Int) := by omega
        have n1 : 0 ≤ (k : Int) - 1 ∧ (k : Int) - 1 < (a.size : Int) := by omega
        have n2 : ((k : Int) - 1).toNat = k - 1 := by omega
        go_wp2_with fail
        go_roundw
        case rel => exact ⟨k + 1, by omega, by go_num, HBL.out.setCell _ HQ.out _, HN.out⟩
        case measure => simp [intOf]; omega
      · have HN := STAY.out g2
        subst gk
        have g5 : (bt a 0 == 37) = false := by simpa using g3
        go_wp2_with fail
        go_roundw
        case rel => exact ⟨1 + 1, by omega, by go_num, HBL.out, HN.out⟩
        case measure => simp [intOf]; omega
      · have HN := MOVE.out g2
        have n0 : (0 : Int) < (k : Int) := by omega
        have n1 : 0 ≤ (k : Int) - 1 ∧ (k : Int) - 1 < (a.size : Int) := by omega
        have n2 : ((k : Int) - 1).toNat = k - 1 := by omega
        have m0 : (1 : Int) < (k : Int) := by omega
        have m1 : 0 ≤ (k : Int) - 2 ∧ (k : Int) - 2 < (a.size : Int) := by omega
        have m2 : ((k : Int) - 2).toNat = k - 2 := by omega
        go_wp2_with fail
        go_roundw
        case rel => exact ⟨k + 1, by omega, by go_num, HBL.out.setCell _ HQ.out _, HN.out⟩
        case measure => simp [intOf]; omega
      · have HN := STAY.out g2
        have n0 : (0 : Int) < (k : Int) := by omega
        have n1 : 0 ≤ (k : Int) - 1 ∧ (k : Int) - 1 < (a.size : Int) := by omega
        have n2 : ((k : Int) - 1).toNat = k - 1 := by omega
        have m0 : (1 : Int) < (k : Int) := by omega
        have m1 : 0 ≤ (k : Int) - 2 ∧ (k : Int) - 2 < (a.size : Int) := by omega
        have m2 : ((k : Int) - 2).toNat = k - 2 := by omega
        have g5 : (bt a (k - 1) == 37) = false := by simpa using g3
        have g6 : (bt a (k - 2) == 37) = false := by simpa using g4
        go_wp2_with fail
        go_roundw
        case rel => exact ⟨k + 1, by omega, by go_num, HBL.out, HN.out⟩
        case measure => simp [intOf]; omega
    · obtain rfl : k = a.size := by omega
      have hcv : (convert 27 9 (.slice (some ⟨Q, 0, none⟩) a.size cap)).run Try.prog wr = .ok (.string (loS a)) wr := HRW.out.text (lo 0 0 (bs a)) (by rw [lo_len, bs_len]) (fun j hj => by rw [loT_at a j hj]; simp [hj]) cap
      have d1 : decS (loS a) = s' := by rw [← HA.out]; exact (decS_lo s').1
      have d2 : decB (loS a) = true := by rw [← HA.out]; exact (decS_lo s').2
      have d3 := loS_size a
      clear HRW HQ
      go_wp2_with fail
      refine (decode6 _ _ (by omega)).mono ?_
      rintro e w4 ⟨rfl, h4⟩
      rw [d1, d2]
      have H4 : Hid (Bl w.heap.size w w4) := (HBL.out.call h4)
      clear h4 HBL d1 d2 d3 hcv
      go_wp2_with fail
      refine (decode6 _ _ (by omega)).mono ?_
      rintro e w5 ⟨rfl, h5⟩
      have H5 : Hid (Bl w.heap.size w w5) := (H4.out.call h5)
      clear h5 H4 gb
      have z1 := decS_size c'
      have z2 := encS_size (decS c')
      have x1 : encS s' = a := HA.out
      have x2 : ∀ w : World, (Op.stringOp .add s' t').run Try.prog w = .ok (.string (s' ++ t')) w := fun w => run_string_add_sum w s' t' (by omega)
      have x3 : ∀ w : World, (Op.stringOp .add a b).run Try.prog w = .ok (.string (a ++ b)) w := fun w => run_string_add_sum w a b (by omega)
      have x4 : encS (s' ++ t') = a ++ b := by rw [encS_append, HA.out, HBB.out]
      have x5 : (a.toList == b.toList) = (s'.toList == t'.toList) := by rw [← HA.out, ← HBB.out]; exact encS_same s' t'
      have x6 : (s' ++ t').size ≤ 10000 := by simp; omega
      cases hz : decB c'
      · have z3 := decS_no c' hz
        go_wp2_with fail
        refine (encode7 _ _ x6).mono ?_
        rintro e w6 ⟨rfl, h6⟩
        rw [x4]
        have H6 : Hid (Bl w.heap.size w w6) := (H5.out.call h6)
        clear h6 H5
        go_wp2_with fail
        refine (encode7 _ _ (by omega)).mono ?_
        rintro e w7 ⟨rfl, h7⟩
        rw [x1]
        have H7 : Hid (Bl w.heap.size w w7) := (H6.out.call h7)
        clear h7 H6
        go_wp2_with fail
        refine (pctRuns_any _).mono ?_
        rintro e w8 ⟨rfl, h8⟩
        have H8 : Hid (Bl w.heap.size w w8) := (H7.out.call h8)
        clear h8 H7
        go_wp2_with fail
        go_ret
        exact ⟨rfl, H8.out.1⟩
      · have z3 : ((encS (decS c')).size : Int) ≤ 3 * (c'.size : Int) := by omega
        go_wp2_with fail
        refine (encode7 _ _ (by omega)).mono ?_
        rintro e w9 ⟨rfl, h9⟩
        have H9 : Hid (Bl w.heap.size w w9) := (H5.out.call h9)
        clear h9 H5
        go_wp2_with fail
        refine (encode7 _ _ x6).mono ?_
        rintro e w6 ⟨rfl, h6⟩
        rw [x4]
        have H6 : Hid (Bl w.heap.size w w6) := (H9.out.call h6)
        clear h6 H9
        go_wp2_with fail
        refine (encode7 _ _ (by omega)).mono ?_
        rintro e w7 ⟨rfl, h7⟩
        rw [x1]
        have H7 : Hid (Bl w.heap.size w w7) := (H6.out.call h7)
        clear h7 H6
        go_wp2_with fail
        refine (pctRuns_any _).mono ?_
        rintro e w8 ⟨rfl, h8⟩
        have H8 : Hid (Bl w.heap.size w w8) := (H7.out.call h8)
        clear h8 H7
        go_wp2_with fail
        go_ret
        exact ⟨rfl, H8.out.1⟩
end Go.Proofs.Ythaabaifhcjpnaa
