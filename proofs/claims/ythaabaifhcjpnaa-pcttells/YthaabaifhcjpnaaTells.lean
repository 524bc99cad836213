/-
  The law PctTells, walked.
-/
import Derived.Test.YthaabaifhcjpnaaRefDec
import Derived.Test.YthaabaifhcjpnaaRef
import Derived.Test.YthaabaifhcjpnaaRuns
import Derived.Deep.RegionHeld3
import Derived.Deep.DeepCutAuto
namespace Go.Proofs.Ythaabaifhcjpnaa
open Go.RowKit Go.PlainAid

/-- below B all is as it was -/
def Bel (B : Nat) (w wx : World) : Prop := Below B w wx ∧ B ≤ wx.heap.size
theorem Bel.refl (w : World) : Bel w.heap.size w w := ⟨Below.refl _ _, Nat.le_refl _⟩
theorem Bel.alloc {B : Nat} {w wx : World} (h : Bel B w wx) (o : Obj) : Bel B w (wx.alloc o) := ⟨h.1.alloc h.2 o, by have := h.2; simp; omega⟩
theorem Bel.drew {B : Nat} {w wx : World} (h : Bel B w wx) : Bel B w wx.drew := ⟨h.1.drew, h.2⟩
theorem Bel.call {B : Nat} {w wx wy : World} (h : Bel B w wx) (hb : Below wx.heap.size wx wy) : Bel B w wy := ⟨h.1.trans (hb.mono h.2), by have := hb.size; have := h.2; omega⟩

theorem kept1 {w w' : World} (h : Below w.heap.size w w') : ∀ (b : Nat) (v : Value), w.cell? ⟨b, 0, none⟩ = some v → w'.cell? ⟨b, 0, none⟩ = some v := fun b _ hv =>
  (h.cell (p := ⟨b, 0, none⟩) (World.block_lt_of_cell? w ⟨b, 0, none⟩ hv)).trans hv

/-- a byte's own code -/
theorem own_code (c : Int) (h0 : 0 ≤ c) (h1 : c ≤ 255) : ((encS (st [c])).toList == (st [c]).toList) = pl c := by
  have hr : InR [c] := by intro x hx; simp at hx; omega
  rw [bs_eq]
  unfold encS
  rw [bs_st hr]
  have e : encL [c] = encI c := by simp [encL]
  rw [e]
  unfold encI
  cases hp : pl c
  · refine decide_eq_false ?_
    intro h
    have := congrArg ByteArray.size h
    rw [st_size, st_size] at this
    simp at this
  · simp

set_option maxHeartbeats 16000000 in
set_option maxRecDepth 100000 in
theorem tells_any (s t s' t' : ByteArray) (w : World) (k1 k2 : Nat) (hif1 : (if (60 : Int) < (s.size : Int) then (60 : Int) else (s.size : Int)) = (k1 : Int)) (hif2 : (if (60 : Int) < (t.size : Int) then (60 : Int) else (t.size : Int)) = (k2 : Int))
    (a0 : (0 : Int) ≤ (k1 : Int)) (a1 : (k1 : Int) ≤ (s.size : Int)) (b0 : (0 : Int) ≤ (k2 : Int)) (b1 : (k2 : Int) ≤ (t.size : Int)) (hs : Hid (s.extract 0 k1 = s')) (ht : Hid (t.extract 0 k2 = t')) (hs2 : s'.size ≤ 60) (ht2 : t'.size ≤ 60) :
    Calls Try.prog 4 #[.string s, .string t] w fun e w' => e = .returned (.bool true) ∧ Below w.heap.size w w' := by
  go_enter Try.func4, Try.ntmps4
  go_wp2_with fail
  go_region
  rw [hs.out, ht.out]
  clear hif1 hif2 a0 a1 b0 b1 hs ht
  go_wp2_with fail
  refine (decode6 _ _ (by omega)).mono ?_
  rintro e w1 ⟨rfl, h1⟩
  have H1 : Hid (Bel w.heap.size w w1) := ((Bel.refl w).drew.call h1)
  clear h1
  go_wp2_with fail
  refine (decode8 _ _ (by omega)).mono ?_
  rintro e w2 ⟨rfl, h2⟩
  have H2 : Hid (Bel w.heap.size w w2) := (H1.out.call h2)
  clear h2 H1
  go_wp2_with fail
  go_loopw [9] (fun i wr => ∃ k : Nat, k ≤ 256 ∧ i = .int .i64 k ∧ Bel w.heap.size w wr) (fun i _ => 256 - (intOf i).toNat)
  case atStart => exact ⟨0, by omega, rfl, H2.out⟩
  case round =>
    obtain ⟨k, hk, rfl, hb⟩ := hrel
    have HB := Lib.hid hb
    clear hb H2
    by_cases hlt : k < 256
    · have c0 : (k : Int) < 256 := by omega
      have c1 : (k : Int) % 256 = (k : Int) := by omega
      have c2 : IntKind.u8.wrap (k : Int) = (k : Int) := IntWalk.u8_in _ (by omega)
      have he := own_code (k : Int) (by omega) (by omega)
      have hcv : ∀ (w : World) (b cap : Nat), w.cell? ⟨b, 0, none⟩ = some (.int .u8 (k : Int)) → (convert 27 9 (.slice (some ⟨b, 0, none⟩) 1 cap)).run Try.prog w = .ok (.string (st [(k : Int)])) w := fun w b cap h => one_text w b cap _ h
      have hz : (st [(k : Int)]).size ≤ 10000 := by rw [st_size]; simp
      go_wp2_with fail
      go_cut [47] (fun v wx => v = .bool false ∧ Bel w.heap.size w wx)
      case first =>
        go_region_with (first | (go_at_call 9; refine (plain9 _ _).mono ?_; rintro e w' ⟨rfl, rfl⟩) | (go_at_call 10; refine (encode10 _ _ hz).mono ?_; rintro e w' ⟨rfl, hbc⟩; have hc1 := kept1 hbc wr.heap.size (.int .u8 (k : Int)); have hc2 := kept1 hbc (wr.heap.size + 1) (.int .u8 (k : Int)); (try simp at hc1); (try simp at hc2); have hbc := Lib.hid hbc))
        all_goals
          go_wp2_with fail
          go_meet
          refine ⟨rfl, ?_⟩
          repeat first | exact HB.out | refine Bel.drew ?_ | refine Bel.alloc ?_ _ | refine Bel.call ?_ hbc.out
      case rest =>
        obtain ⟨rfl, hb⟩ := hcut
        have HB := Lib.hid hb
        clear hb
        go_wp2_with fail
        go_roundw
        case rel => exact ⟨k + 1, by omega, by go_num, HB.out⟩
        case measure => simp [intOf]; omega
    · obtain rfl : k = 256 := by omega
      go_wp2_with fail
      refine (encode7 _ _ (by omega)).mono ?_
      rintro e w3 ⟨rfl, h3⟩
      have H3 : Hid (Bel w.heap.size w w3) := (HB.out.call h3)
      clear h3 HB
      go_wp2_with fail
      refine (encode10 _ _ (by omega)).mono ?_
      rintro e w4 ⟨rfl, h4⟩
      have H4 : Hid (Bel w.heap.size w w4) := (H3.out.call h4)
      clear h4 H3
      go_wp2_with fail
      refine (pctRuns_any _).mono ?_
      rintro e w5 ⟨rfl, h5⟩
      have H5 : Hid (Bel w.heap.size w w5) := (H4.out.call h5)
      clear h5 H4
      go_wp2_with fail
      go_ret
      exact ⟨rfl, H5.out.1⟩
end Go.Proofs.Ythaabaifhcjpnaa
