/-
  porticobook.Roomy and Intact at entries.
-/
import Derived.Test.YtbkhlmnonjkelaaRom
import Derived.Deep.Cut
namespace Go.Proofs.Ytbkhlmnonjkelaa
open Go.RowKit Go.PlainAid
set_option maxRecDepth 100000

/-- what Roomy fills in, up to place k -/
def roomK (l : List En) (m : En) (k : Nat) : Nat → En := fun i => if i < l.length then l.getD i default else if i < k then m else (⟨#[]⟩, 0)
theorem roomK_next (l : List En) (m : En) (k : Nat) (hk : l.length ≤ k) : putE (roomK l m k) k m = roomK l m (k + 1) := by
  funext i
  unfold putE roomK
  by_cases h : i = k
  · subst h
    rw [if_pos rfl, if_neg (by omega), if_pos (by omega)]
  · rw [if_neg h]
    by_cases h2 : i < l.length
    · rw [if_pos h2, if_pos h2]
    · rw [if_neg h2, if_neg h2]
      by_cases h3 : i < k
      · rw [if_pos h3, if_pos (by omega)]
      · rw [if_neg h3, if_neg (by omega)]
/-- Roomy's answer -/
def RoomP (w : World) (l : List En) (m : En) (e : Ending) (w' : World) : Prop := ∃ T, e = .returned (.slice (some ⟨T, 0, none⟩) (l.length + 80) (l.length + 80)) ∧ w.heap.size ≤ T ∧ Rk w' T (l.length + 80) (roomK l m (l.length + 80)) ∧ Below w.heap.size w w'

set_option maxHeartbeats 6400000 in
theorem roomy21 (ad : Addr) (n c : Nat) (l : List En) (s : ByteArray) (x : Int) (w : World) (hv : Es w (.slice (some ad) n c) l) (hl : l.length ≤ 1000) :
    Calls Try.prog 21 #[.slice (some ad) n c, .agg #[.string s, .int .u64 x]] w (RoomP w l (s, x)) := by
  obtain rfl : n = l.length := by
    obtain ⟨A', c', e, _⟩ := hv
    cases e
    rfl
  have hM := blk_new w (.cells #[.string s, .int .u64 x] 28 (0, 0))
  have hB := (Below.refl _ w).alloc (Nat.le_refl _) (.cells #[.string s, .int .u64 x] 28 (0, 0))
  have HV := Lib.hid (hv.call ((Below.refl _ w).alloc (Nat.le_refl _) (.cells #[.string s, .int .u64 x] 28 (0, 0))))
  clear hv
  have i1 : IntKind.i64.wrap ((l.length : Int) + 80) = ((l.length + 80 : Nat) : Int) := IntWalk.i64_in _ (by omega)
  go_enter Try.func21, Try.ntmps21
  have hz1 : (w.alloc (.cells #[.string s, .int .u64 x] 28 (0, 0))).heap.size = w.heap.size + 1 := by simp
  go_upto_region 1 with fail
  generalize hW : w.alloc (.cells #[.string s, .int .u64 x] 28 (0, 0)) = w1 at *
  have hlt : w.heap.size < w1.heap.size := by omega
  clear hW hz1
  go_wp2_with (first
    | (refine wpList_mkN _ rfl _ _ rfl (l.length + 80) rfl rfl (by omega) ?_; intro w2 hw2 hb2)
    | (refine wpList_cpN _ rfl _ _ rfl w1.heap.size (l.length + 80) (l.length + 80) l.length c ad _ l rfl rfl hw2 (HV.out.call hb2) (by omega) ?_; intro w3 hw3 hk3))
  have hM3 : w3.heap[w.heap.size]? = some (.cells #[.string s, .int .u64 x] 28 (0, 0)) := (hk3.block _ (by have := hb2.size; omega) (by omega)).trans ((hb2.block _ hlt).trans hM)
  have hB3 : Below w.heap.size w w3 := (hB.trans (hb2.mono (by omega))).trans (hk3.below (by have := hb2.size; omega) (fun i hi e => by omega))
  have hR3 : Rk w3 w1.heap.size (l.length + 80) (roomK l (s, x) l.length) := by
    refine hw3.congr (fun i _ => ?_)
    unfold roomK
    by_cases e : i < l.length
    · rw [if_pos e, if_pos e]
    · rw [if_neg e, if_neg e, if_neg e]
  clear hw3 hk3 hb2 hw2 hM hB HV
  generalize w1.heap.size = T at *
  go_loopw [6] (fun i wr => ∃ (k : Nat), l.length ≤ k ∧ k ≤ l.length + 80 ∧ i = .int .i64 k ∧ Rk wr T (l.length + 80) (roomK l (s, x) k) ∧ wr.heap[w.heap.size]? = some (.cells #[.string s, .int .u64 x] 28 (0, 0)) ∧ Below w.heap.size w wr) (fun i _ => l.length + 80 - (intOf i).toNat)
  case atStart => exact ⟨l.length, by omega, by omega, rfl, hR3, hM3, hB3⟩
  case round =>
    clear hR3 hM3 hB3
    obtain ⟨k, hk0, hk1, rfl, hr, hm, hb⟩ := hrel
    have HB := Lib.hid hb
    clear hb
    by_cases hlt2 : k < l.length + 80
    · have d0 : (k : Int) < (l.length : Int) + 80 := by omega
      have d1 : (k : Int) < ((l.length + 80 : Nat) : Int) := by omega
      have m0 := blk_cell hm 0
      have m1 := blk_cell hm 1
      simp at m0 m1
      have r0 := hr.txt k hlt2
      have r1 := hr.scr k hlt2
      have f0 := hr.fro (k * 2)
      have f1 := hr.fro (k * 2 + 1)
      have h3 := hr.setEnt k hlt2 s x
      rw [roomK_next l (s, x) k hk0] at h3
      have hk3 := ((Kp.refl (fun i => i = T) wr).setCell (p := ⟨T, k * 2, none⟩) (fun _ => rfl) (.string s)).setCell (p := ⟨T, k * 2 + 1, none⟩) (fun _ => rfl) (.int .u64 x)
      have H3 := Lib.hid h3
      have K3 := Lib.hid hk3
      have HM := Lib.hid hm
      clear h3 hk3 hm hr
      go_wp2_with fail
      go_roundw
      case rel => exact ⟨k + 1, by omega, by omega, by go_num, H3.out, (K3.out.block _ (blk_lt HM.out) (by omega)).trans HM.out, HB.out.trans (K3.out.below HB.out.size (fun i hi e => by omega))⟩
      case measure => simp [intOf]; omega
    · obtain rfl : k = l.length + 80 := by omega
      have HR := Lib.hid hr
      clear hr
      have d1 : ¬ ((l.length + 80 : Nat) : Int) < ((l.length + 80 : Nat) : Int) := by omega
      go_wp2
      go_ret
      exact ⟨T, rfl, by omega, HR.out, HB.out⟩

theorem lis_getD (l : List En) : lis (fun i => l.getD i default) l.length = l := by
  apply List.ext_getElem
  · simp [lis]
  · intro i h1 h2
    simp [lis, List.getD, h2]
theorem lis_room (l : List En) (m : En) (k : Nat) : lis (roomK l m k) l.length = l := by
  refine (lis_congr (fun i hi => ?_)).trans (lis_getD l)
  unfold roomK
  rw [if_pos hi]

set_option maxHeartbeats 6400000 in
theorem intact22 (T c : Nat) (v2 : Value) (l : List En) (s : ByteArray) (x : Int) (w : World) (h1 : Rk w T (l.length + 80) (roomK l (s, x) (l.length + 80))) (h2 : Es w v2 l) (hl : l.length ≤ 1000) (hc : l.length + 80 ≤ c) :
    Calls Try.prog 22 #[.slice (some ⟨T, 0, none⟩) (l.length + 80) c, v2, .agg #[.string s, .int .u64 x]] w fun e w' => e = .returned (.bool true) ∧ Below w.heap.size w w' := by
  have hM := blk_new w (.cells #[.string s, .int .u64 x] 28 (0, 0))
  have hB := (Below.refl _ w).alloc (Nat.le_refl _) (.cells #[.string s, .int .u64 x] 28 (0, 0))
  have H1 := h1.alloc (.cells #[.string s, .int .u64 x] 28 (0, 0))
  have H2 := Lib.hid (h2.call ((Below.refl _ w).alloc (Nat.le_refl _) (.cells #[.string s, .int .u64 x] 28 (0, 0))))
  obtain ⟨A2, c2, rfl, hc2, _⟩ := h2
  clear h1
  have i1 : IntKind.i64.wrap ((l.length : Int) + 80) = (l.length : Int) + 80 := IntWalk.i64_in _ (by omega)
  have i2 : (l.length : Int) ≤ (c : Int) := by omega
  have n1 : (((l.length : Int) + 80) != ((l.length : Int) + 80)) = false := by simp
  go_enter Try.func22, Try.ntmps22
  go_upto_region 1 with fail
  generalize w.alloc (.cells #[.string s, .int .u64 x] 28 (0, 0)) = w1 at *
  go_wp2_with fail
  refine (same11 _ _ _ _ w1 (H1.es l.length c (by omega) (by omega)) H2.out (by rw [lis_len]; omega)).mono ?_
  rintro e w2 ⟨rfl, hb2⟩
  rw [show decide (lis (roomK l (s, x) (l.length + 80)) l.length = l) = true by rw [lis_room]; simp]
  have h3 := H1.call hb2
  have hm3 := blk_call hM hb2
  have hB3 := hB.trans (hb2.mono hB.size)
  clear H1 hM hB H2 hb2
  go_wp2_with fail
  go_loopw [7] (fun i wr => ∃ (k : Nat), l.length ≤ k ∧ k ≤ l.length + 80 ∧ i = .int .i64 k ∧ Below w2.heap.size w2 wr) (fun i _ => l.length + 80 - (intOf i).toNat)
  case atStart => exact ⟨l.length, by omega, by omega, rfl, Below.refl _ _⟩
  case round =>
    obtain ⟨k, hk0, hk1, rfl, hb⟩ := hrel
    have H3 := Lib.hid (h3.call hb)
    have M3 := Lib.hid (blk_call hm3 hb)
    have HB := Lib.hid hb
    have B3 := Lib.hid hB3
    clear hb h3 hm3 hB3
    by_cases hlt2 : k < l.length + 80
    · have d0 : (k : Int) < (l.length : Int) + 80 := by omega
      have d1 : (k : Int) < ((l.length + 80 : Nat) : Int) := by omega
      have m0 := blk_cell M3.out 0
      have m1 := blk_cell M3.out 1
      simp at m0 m1
      have r0 := H3.out.txt k hlt2
      have r1 := H3.out.scr k hlt2
      rw [show roomK l (s, x) (l.length + 80) k = (s, x) by unfold roomK; rw [if_neg (by omega), if_pos hlt2]] at r0 r1
      go_wp2_with fail
      go_region
      go_wp2_with fail
      go_roundw
      case rel => exact ⟨k + 1, by omega, by omega, by go_num, HB.out.drew⟩
      case measure => simp [intOf]; omega
    · obtain rfl : k = l.length + 80 := by omega
      have d1 : ¬ ((l.length + 80 : Nat) : Int) < ((l.length + 80 : Nat) : Int) := by omega
      go_wp2
      go_ret
      exact ⟨rfl, B3.out.trans (HB.out.mono B3.out.size)⟩
end Go.Proofs.Ytbkhlmnonjkelaa
