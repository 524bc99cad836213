/-
  TrapMany's closure, and Run over it: all checks pass; one of them doesn't.
-/
import Derived.Test.YtnbkgpkgfolakaaCaught
import Derived.Test.YtnbkgpkgfolakaaBook
import Derived.Deep.RegionHeld3
import Derived.Deep.DeepCutAuto
import Derived.RegionDies
namespace Go.Proofs.Ytnbkgpkgfolakaa
open Go.RowKit

/-- A slice of bools that came in: it holds f. -/
def BoolsAt (ao : Option Addr) (len : Nat) (f : Nat → Bool) (w : World) : Prop := 0 < len → ∃ b off, ao = some ⟨b, off, none⟩ ∧ ∀ j, j < len → w.cell? ⟨b, off + j, none⟩ = some (.bool (f j)) ∧ b < w.heap.size

/-- closure 20's loop: asked holds k -/
def Asking (Ask p : Nat) (w : World) (i : Value) (wr : World) : Prop :=
  ∃ k : Nat, k ≤ p ∧ i = .int .i64 k ∧ wr.heap[Ask]? = some (.cells #[.int .i64 k] 3 (0, 0)) ∧ Kp (fun x => x = Ask) w wr

set_option maxHeartbeats 1000000 in
set_option maxRecDepth 100000 in
theorem closure20 (O Ask N len cap p : Nat) (ao : Option Addr) (f : Nat → Bool) (note : ByteArray) (w : World)
    (hO : w.heap[O]? = some (.cells #[.slice ao len cap] 36 (0, 0))) (hA : w.heap[Ask]? = some (.cells #[.int .i64 0] 3 (0, 0))) (hN : w.heap[N]? = some (.cells #[.string note] 9 (0, 0)))
    (hb : BoolsAt ao len f w) (hOA : O ≠ Ask) (hNA : N ≠ Ask) (hbA : ∀ b off, 0 < len → ao = some ⟨b, off, none⟩ → b ≠ Ask) (hp : p = min len 20) (hf : ∀ j, j < p → f j = true) :
    Calls Try.prog 20 #[.pointer (some ⟨O, 0, none⟩), .pointer (some ⟨Ask, 0, none⟩), .pointer (some ⟨N, 0, none⟩)] w fun e w' => e = .returned (.tuple #[]) ∧ w'.heap[Ask]? = some (.cells #[.int .i64 p] 3 (0, 0)) ∧ Kp (fun x => x = Ask) w w' := by
  have HO := Lib.hid hO
  have HA := Lib.hid hA
  have HN := Lib.hid hN
  have HB := Lib.hid hb
  have HBA := Lib.hid hbA
  have HF := Lib.hid hf
  have HP := Lib.hid hp
  clear hO hA hN hb hbA hf hp
  go_enter Try.func20, Try.ntmps20
  go_wp2
  go_loopw [3] (Asking Ask p w) (fun i _ => p - (intOf i).toNat)
  case atStart => exact ⟨0, Nat.zero_le _, rfl, HA.out, Kp.refl _ _⟩
  case round =>
    obtain ⟨k, hk, rfl, hkA, hkk⟩ := hrel
    have cO := blk_cell ((hkk.block O (blk_lt HO.out) hOA).trans HO.out) 0
    have cN := blk_cell ((hkk.block N (blk_lt HN.out) hNA).trans HN.out) 0
    have cA := blk_cell hkA 0
    have fA := blk_frozen hkA 0
    have HK := Lib.hid hkk
    have HKA := Lib.hid hkA
    have hpp := HP.out
    clear hkk hkA
    by_cases hlt : k < p
    · have h1 : k < len := by omega
      have h2 : k < 20 := by omega
      have h1' : (k : Int) < (len : Int) := by omega
      have h0' : (0 : Int) ≤ (k : Int) := by omega
      have h2' : (k : Int) < 20 := by omega
      obtain ⟨b, off, rfl, hc⟩ := HB.out (by omega)
      obtain ⟨hck, hbl⟩ := hc k h1
      have hbA := HBA.out b off (by omega) rfl
      rw [HF.out k hlt] at hck
      have HC := Lib.hid hck
      clear hc hck hpp
      go_wp2
      have hA1 : Hid ((wr.setCell ⟨Ask, 0, none⟩ (.int .i64 ((k : Int) + 1))).heap[Ask]? = some (.cells #[.int .i64 ((k : Int) + 1)] 3 (0, 0))) := by
        have := blk_setCell HKA.out 0 (.int .i64 ((k : Int) + 1))
        unfold Hid
        simpa using this
      have hK1 : Hid (Kp (fun x => x = Ask) w (wr.setCell ⟨Ask, 0, none⟩ (.int .i64 ((k : Int) + 1)))) := HK.out.setCell (fun _ => rfl) _
      generalize wr.setCell ⟨Ask, 0, none⟩ (.int .i64 ((k : Int) + 1)) = w1 at *
      have dO : w1.cell? ⟨O, 0, none⟩ = some (.slice (some ⟨b, off, none⟩) len cap) := blk_cell ((hK1.out.block O (blk_lt HO.out) hOA).trans HO.out) 0
      have dN : w1.cell? ⟨N, 0, none⟩ = some (.string note) := blk_cell ((hK1.out.block N (blk_lt HN.out) hNA).trans HN.out) 0
      have dB := (hK1.out.cell (p := ⟨b, off + k, none⟩) hbl hbA).trans HC.out
      clear cO cN cA fA
      go_region_held3 (fun w' => w'.cell? ⟨O, 0, none⟩ = some (.slice (some ⟨b, off, none⟩) len cap) ∧ w'.cell? ⟨N, 0, none⟩ = some (.string note) ∧ w'.cell? ⟨b, off + k, none⟩ = some (.bool true))
        (go_keep) (first | (go_at_call 11; refine (must_yes _ _ _ _).mono ?_; rintro e w' ⟨rfl, rfl⟩))
      go_wp2_with fail
      go_roundw
      case rel => exact ⟨k + 1, by omega, by go_num, by show w1.heap[Ask]? = _; rw [hA1.out]; simp, hK1.out.drew⟩
      case measure => simp [intOf]; omega
    · obtain rfl : k = p := by omega
      by_cases h1 : k < len
      · have h2 : ¬ k < 20 := by omega
        have h1' : (k : Int) < (len : Int) := by omega
        have h2' : ¬ (k : Int) < 20 := by omega
        clear hpp
        go_wp2
        go_end0
        exact ⟨rfl, HKA.out, HK.out⟩
      · have h1' : ¬ (k : Int) < (len : Int) := by omega
        clear hpp
        go_wp2
        go_end0
        exact ⟨rfl, HKA.out, HK.out⟩
set_option maxHeartbeats 1000000 in
set_option maxRecDepth 100000 in
theorem closure20_thrown (O Ask N len cap p : Nat) (ao : Option Addr) (f : Nat → Bool) (note : ByteArray) (w : World)
    (hO : w.heap[O]? = some (.cells #[.slice ao len cap] 36 (0, 0))) (hA : w.heap[Ask]? = some (.cells #[.int .i64 0] 3 (0, 0))) (hN : w.heap[N]? = some (.cells #[.string note] 9 (0, 0)))
    (hb : BoolsAt ao len f w) (hOA : O ≠ Ask) (hNA : N ≠ Ask) (hbA : ∀ b off, 0 < len → ao = some ⟨b, off, none⟩ → b ≠ Ask) (hp : p < min len 20) (hf : ∀ j, j < p → f j = true) (hfp : f p = false) :
    Calls Try.prog 20 #[.pointer (some ⟨O, 0, none⟩), .pointer (some ⟨Ask, 0, none⟩), .pointer (some ⟨N, 0, none⟩)] w fun e w' => e = .panicked (thr 8 note p) ∧ w'.heap[Ask]? = some (.cells #[.int .i64 ((p : Int) + 1)] 3 (0, 0)) ∧ Kp (fun x => x = Ask) w w' := by
  have HO := Lib.hid hO
  have HA := Lib.hid hA
  have HN := Lib.hid hN
  have HB := Lib.hid hb
  have HBA := Lib.hid hbA
  have HF := Lib.hid hf
  have HP := Lib.hid hp
  have HFP := Lib.hid hfp
  clear hO hA hN hb hbA hf hp hfp
  go_enter Try.func20, Try.ntmps20
  go_wp2
  go_loopw [3] (Asking Ask p w) (fun i _ => p - (intOf i).toNat)
  case atStart => exact ⟨0, Nat.zero_le _, rfl, HA.out, Kp.refl _ _⟩
  case round =>
    obtain ⟨k, hk, rfl, hkA, hkk⟩ := hrel
    have cO := blk_cell ((hkk.block O (blk_lt HO.out) hOA).trans HO.out) 0
    have cN := blk_cell ((hkk.block N (blk_lt HN.out) hNA).trans HN.out) 0
    have cA := blk_cell hkA 0
    have fA := blk_frozen hkA 0
    have HK := Lib.hid hkk
    have HKA := Lib.hid hkA
    have hpp := HP.out
    clear hkk hkA
    by_cases hlt : k < p
    · have h1 : k < len := by omega
      have h2 : k < 20 := by omega
      have h1' : (k : Int) < (len : Int) := by omega
      have h0' : (0 : Int) ≤ (k : Int) := by omega
      have h2' : (k : Int) < 20 := by omega
      obtain ⟨b, off, rfl, hc⟩ := HB.out (by omega)
      obtain ⟨hck, hbl⟩ := hc k h1
      have hbA := HBA.out b off (by omega) rfl
      rw [HF.out k hlt] at hck
      have HC := Lib.hid hck
      clear hc hck hpp
      go_wp2
      have hA1 : Hid ((wr.setCell ⟨Ask, 0, none⟩ (.int .i64 ((k : Int) + 1))).heap[Ask]? = some (.cells #[.int .i64 ((k : Int) + 1)] 3 (0, 0))) := by
        have := blk_setCell HKA.out 0 (.int .i64 ((k : Int) + 1))
        unfold Hid
        simpa using this
      have hK1 : Hid (Kp (fun x => x = Ask) w (wr.setCell ⟨Ask, 0, none⟩ (.int .i64 ((k : Int) + 1)))) := HK.out.setCell (fun _ => rfl) _
      generalize wr.setCell ⟨Ask, 0, none⟩ (.int .i64 ((k : Int) + 1)) = w1 at *
      have dO : w1.cell? ⟨O, 0, none⟩ = some (.slice (some ⟨b, off, none⟩) len cap) := blk_cell ((hK1.out.block O (blk_lt HO.out) hOA).trans HO.out) 0
      have dN : w1.cell? ⟨N, 0, none⟩ = some (.string note) := blk_cell ((hK1.out.block N (blk_lt HN.out) hNA).trans HN.out) 0
      have dB := (hK1.out.cell (p := ⟨b, off + k, none⟩) hbl hbA).trans HC.out
      clear cO cN cA fA
      go_region_held3 (fun w' => w'.cell? ⟨O, 0, none⟩ = some (.slice (some ⟨b, off, none⟩) len cap) ∧ w'.cell? ⟨N, 0, none⟩ = some (.string note) ∧ w'.cell? ⟨b, off + k, none⟩ = some (.bool true))
        (go_keep) (first | (go_at_call 11; refine (must_yes _ _ _ _).mono ?_; rintro e w' ⟨rfl, rfl⟩))
      go_wp2_with fail
      go_roundw
      case rel => exact ⟨k + 1, by omega, by go_num, by show w1.heap[Ask]? = _; rw [hA1.out]; simp, hK1.out.drew⟩
      case measure => simp [intOf]; omega
    · obtain rfl : k = p := by omega
      have h1 : k < len := by omega
      have h2 : k < 20 := by omega
      have h1' : (k : Int) < (len : Int) := by omega
      have h0' : (0 : Int) ≤ (k : Int) := by omega
      have h2' : (k : Int) < 20 := by omega
      obtain ⟨b, off, rfl, hc⟩ := HB.out (by omega)
      obtain ⟨hck, hbl⟩ := hc k h1
      have hbA := HBA.out b off (by omega) rfl
      rw [HFP.out] at hck
      have HC := Lib.hid hck
      clear hc hck hpp
      go_wp2
      have hA1 : Hid ((wr.setCell ⟨Ask, 0, none⟩ (.int .i64 ((k : Int) + 1))).heap[Ask]? = some (.cells #[.int .i64 ((k : Int) + 1)] 3 (0, 0))) := by
        have := blk_setCell HKA.out 0 (.int .i64 ((k : Int) + 1))
        unfold Hid
        simpa using this
      have hK1 : Hid (Kp (fun x => x = Ask) w (wr.setCell ⟨Ask, 0, none⟩ (.int .i64 ((k : Int) + 1)))) := HK.out.setCell (fun _ => rfl) _
      generalize wr.setCell ⟨Ask, 0, none⟩ (.int .i64 ((k : Int) + 1)) = w1 at *
      have dO : w1.cell? ⟨O, 0, none⟩ = some (.slice (some ⟨b, off, none⟩) len cap) := blk_cell ((hK1.out.block O (blk_lt HO.out) hOA).trans HO.out) 0
      have dN : w1.cell? ⟨N, 0, none⟩ = some (.string note) := blk_cell ((hK1.out.block N (blk_lt HN.out) hNA).trans HN.out) 0
      have dB := (hK1.out.cell (p := ⟨b, off + k, none⟩) hbl hbA).trans HC.out
      clear cO cN cA fA
      go_region_dies
      all_goals
        refine (must_no _ _ _ _).mono ?_
        rintro e w' ⟨rfl, rfl⟩
        exact ⟨rfl, rfl, hA1.out, hK1.out.drew⟩

theorem cf20 (caps : Array Value) (w : World) : (callFunc 20 caps).run Try.prog w = .ok (.enter 20 caps) w := by simp [go_sem]

/-- Run's two variables stand where just older blocks turn -/
theorem intact_kp {S : Nat → Prop} {w w1 : World} (hk : Kp S (w2 w) w1) (hS : ∀ i, S i → i < w.heap.size) : Intact w w1 := by
  have hs := w2_size w
  obtain ⟨i1, i2⟩ := intact_w2 w
  exact ⟨(hk.block w.heap.size (by omega) (fun t => by have := hS _ t; omega)).trans i1, (hk.block (w.heap.size + 1) (by omega) (fun t => by have := hS _ t; omega)).trans i2⟩
theorem kp_run {S : Nat → Prop} {w w1 w' : World} (hk : Kp S (w2 w) w1) (hr : Kp (fun k => k = w.heap.size ∨ k = w.heap.size + 1) w1 w') : Kp S w w' :=
  ((w2_kp w _).trans hk (fun i hi t => t)).trans hr (fun i hi t => by omega)
theorem blk_run {S : Nat → Prop} {b : Nat} {o : Obj} {w w1 w' : World} (_hk : Kp S (w2 w) w1) (hr : Kp (fun k => k = w.heap.size ∨ k = w.heap.size + 1) w1 w') (hb : b < w.heap.size) (h : w1.heap[b]? = some o) : w'.heap[b]? = some o :=
  (hr.block b (blk_lt h) (by omega)).trans h

theorem BoolsAt.kp {ao : Option Addr} {len : Nat} {f : Nat → Bool} {w w' : World} {S : Nat → Prop} (h : BoolsAt ao len f w) (hk : Kp S w w') (hS : ∀ b off, 0 < len → ao = some ⟨b, off, none⟩ → ¬ S b) : BoolsAt ao len f w' := by
  intro h0
  obtain ⟨b, off, rfl, hc⟩ := h h0
  refine ⟨b, off, rfl, fun j hj => ?_⟩
  obtain ⟨h1, h2⟩ := hc j hj
  exact ⟨(hk.cell (p := ⟨b, off + j, none⟩) h2 (hS b off h0 rfl)).trans h1, Nat.lt_of_lt_of_le h2 hk.size⟩

theorem run20 (O Ask N len cap p : Nat) (ao : Option Addr) (f : Nat → Bool) (note : ByteArray) (w : World)
    (hO : w.heap[O]? = some (.cells #[.slice ao len cap] 36 (0, 0))) (hA : w.heap[Ask]? = some (.cells #[.int .i64 0] 3 (0, 0))) (hN : w.heap[N]? = some (.cells #[.string note] 9 (0, 0)))
    (hb : BoolsAt ao len f w) (hOA : O ≠ Ask) (hNA : N ≠ Ask) (hbA : ∀ b off, 0 < len → ao = some ⟨b, off, none⟩ → b ≠ Ask) (hp : p = min len 20) (hf : ∀ j, j < p → f j = true) :
    Calls Try.prog 7 #[.func (.func 20) #[] #[.pointer (some ⟨O, 0, none⟩), .pointer (some ⟨Ask, 0, none⟩), .pointer (some ⟨N, 0, none⟩)]] w fun e w' =>
      e = .returned (.tuple #[.agg #[.int .i64 0, .string ⟨#[]⟩, .int .i64 0], .bool true]) ∧ w'.heap[Ask]? = some (.cells #[.int .i64 p] 3 (0, 0)) ∧ Kp (fun x => x = Ask) w w' := by
  have hAl := blk_lt hA
  refine (run_ret 20 _ w (fun w1 => w1.heap[Ask]? = some (.cells #[.int .i64 p] 3 (0, 0)) ∧ Kp (fun x => x = Ask) (w2 w) w1) (cf20 _) ?_).mono ?_
  · refine (closure20 O Ask N len cap p ao f note (w2 w) (blk_alloc (blk_alloc hO _) _) (blk_alloc (blk_alloc hA _) _) (blk_alloc (blk_alloc hN _) _) (hb.kp (w2_kp w (fun _ => False)) (fun _ _ _ _ t => t)) hOA hNA hbA hp hf).mono ?_
    rintro e w' ⟨rfl, h1, h2⟩
    exact ⟨rfl, intact_kp h2 (fun i t => by omega), h1, h2⟩
  · rintro e w' ⟨rfl, w1, ⟨h1, h2⟩, hk⟩
    exact ⟨rfl, blk_run h2 hk hAl h1, kp_run h2 hk⟩

theorem run20_thrown (O Ask N len cap p : Nat) (ao : Option Addr) (f : Nat → Bool) (note : ByteArray) (w : World)
    (hO : w.heap[O]? = some (.cells #[.slice ao len cap] 36 (0, 0))) (hA : w.heap[Ask]? = some (.cells #[.int .i64 0] 3 (0, 0))) (hN : w.heap[N]? = some (.cells #[.string note] 9 (0, 0)))
    (hb : BoolsAt ao len f w) (hOA : O ≠ Ask) (hNA : N ≠ Ask) (hbA : ∀ b off, 0 < len → ao = some ⟨b, off, none⟩ → b ≠ Ask) (hp : p < min len 20) (hf : ∀ j, j < p → f j = true) (hfp : f p = false) :
    Calls Try.prog 7 #[.func (.func 20) #[] #[.pointer (some ⟨O, 0, none⟩), .pointer (some ⟨Ask, 0, none⟩), .pointer (some ⟨N, 0, none⟩)]] w fun e w' =>
      e = .returned (.tuple #[.agg #[.int .i64 8, .string note, .int .i64 p], .bool false]) ∧ w'.heap[Ask]? = some (.cells #[.int .i64 ((p : Int) + 1)] 3 (0, 0)) ∧ Kp (fun x => x = Ask) w w' := by
  have hAl := blk_lt hA
  refine (run_thrown 20 _ 8 p note w (fun w1 => w1.heap[Ask]? = some (.cells #[.int .i64 ((p : Int) + 1)] 3 (0, 0)) ∧ Kp (fun x => x = Ask) (w2 w) w1) (cf20 _) ?_).mono ?_
  · refine (closure20_thrown O Ask N len cap p ao f note (w2 w) (blk_alloc (blk_alloc hO _) _) (blk_alloc (blk_alloc hA _) _) (blk_alloc (blk_alloc hN _) _) (hb.kp (w2_kp w (fun _ => False)) (fun _ _ _ _ t => t)) hOA hNA hbA hp hf hfp).mono ?_
    rintro e w' ⟨rfl, h1, h2⟩
    exact ⟨rfl, intact_kp h2 (fun i t => by omega), h1, h2⟩
  · rintro e w' ⟨rfl, w1, ⟨h1, h2⟩, hk⟩
    exact ⟨rfl, blk_run h2 hk hAl h1, kp_run h2 hk⟩

end Go.Proofs.Ytnbkgpkgfolakaa
