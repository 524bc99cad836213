/-
  The contracts of package past's methods over a past in memory.
-/
import Derived.Test.YtbkhlmnonjkelaaPst
import Derived.Test.YtbkhlmnonjkelaaScr
namespace Go.Proofs.Ytbkhlmnonjkelaa
open Go.RowKit Go.PlainAid
set_option maxRecDepth 100000

section
variable {b : Nat} {g : Nat → En} {last at_ : Nat}

set_option maxHeartbeats 1600000 in
theorem at13 (w : World) (h : Pc w b g last at_) :
    Calls Try.prog 13 #[.pointer (some ⟨b, 0, none⟩)] w fun e w' => e = .returned (.int .i64 at_) ∧ w = w' := by
  have c25 := h.c25
  clear h
  go_enter Try.func13, Try.ntmps13
  go_wp2
  go_ret
  exact ⟨rfl, rfl⟩

/-- what Can answers -/
def canB (last at_ : Nat) (n : Int) : Bool := decide (-(at_ : Int) ≤ n) && decide (n ≤ (last : Int) - at_)

set_option maxHeartbeats 1600000 in
theorem can20 (n : Int) (w : World) (h : Pc w b g last at_) (hl : last ≤ 11) (ha : at_ ≤ last) :
    Calls Try.prog 20 #[.pointer (some ⟨b, 0, none⟩), .int .i64 n] w fun e w' => e = .returned (.bool (canB last at_ n)) ∧ ∃ q, w' = w.drewN q := by
  have c24 := h.c24
  have c25 := h.c25
  clear h
  by_cases h1 : -(at_ : Int) ≤ n
  · by_cases h2 : n ≤ (last : Int) - at_
    · have e : canB last at_ n = true := by simp [canB, h1, h2]
      have E := Lib.hid e
      clear e
      go_enter Try.func20, Try.ntmps20
      go_wp2
      go_quiet (fail)
      go_wp2
      rw [E.out]
      go_ret
      exact ⟨rfl, _, rfl⟩
    · have e : canB last at_ n = false := by simp [canB, h2]
      have d2 : decide (n ≤ (last : Int) - at_) = false := by simpa using h2
      have E := Lib.hid e
      clear e
      go_enter Try.func20, Try.ntmps20
      go_wp2
      go_quiet (fail)
      go_wp2
      rw [E.out]
      go_ret
      exact ⟨rfl, _, rfl⟩
  · have e : canB last at_ n = false := by simp [canB, h1]
    have d : decide (-(at_ : Int) ≤ n) = false := by simpa using h1
    have E := Lib.hid e
    clear e
    go_enter Try.func20, Try.ntmps20
    go_wp2
    go_quiet (fail)
    go_wp2
    rw [E.out]
    go_ret
    exact ⟨rfl, _, rfl⟩

theorem ent2 (w : World) (T : Nat) (s : ByteArray) (x : Int) {cs : Array Value} (hT : w.heap[T]? = some (.cells cs 28 (0, 0))) (hz : cs.size = 2) :
    ((w.setCell ⟨T, 0, none⟩ (.string s)).setCell ⟨T, 1, none⟩ (.int .u64 x)).heap[T]? = some (.cells #[.string s, .int .u64 x] 28 (0, 0)) ∧ Kp (fun i => i = T) w ((w.setCell ⟨T, 0, none⟩ (.string s)).setCell ⟨T, 1, none⟩ (.int .u64 x)) := by
  refine ⟨?_, ((Kp.refl (fun i => i = T) w).setCell (p := ⟨T, 0, none⟩) (fun _ => rfl) _).setCell (p := ⟨T, 1, none⟩) (fun _ => rfl) _⟩
  rw [blk_setCell (blk_setCell hT 0 _) 1 _]
  obtain ⟨l⟩ := cs
  obtain ⟨x0, l, rfl⟩ : ∃ x0 l', l = x0 :: l' := by cases l with | nil => simp at hz | cons a l => exact ⟨a, l, rfl⟩
  obtain ⟨x1, l, rfl⟩ : ∃ x0 l', l = x0 :: l' := by cases l with | nil => simp at hz | cons a l => exact ⟨a, l, rfl⟩
  obtain rfl : l = [] := List.eq_nil_of_length_eq_zero (by simpa using hz)
  rfl

set_option maxHeartbeats 1600000 in
theorem now19 (w : World) (h : Pc w b g last at_) (ha : at_ ≤ 11) :
    Calls Try.prog 19 #[.pointer (some ⟨b, 0, none⟩)] w fun e w' => e = .returned (.agg #[.string (g at_).1, .int .u64 (g at_).2]) ∧ Below w.heap.size w w' := by
  have h1 := (h.alloc (.cells #[.string ⟨#[]⟩, .int .u64 0] 28 (0, 0))).drew
  have hT : (w.alloc (.cells #[.string ⟨#[]⟩, .int .u64 0] 28 (0, 0))).drew.heap[w.heap.size]? = _ := blk_new w _
  have hB : Below w.heap.size w (w.alloc (.cells #[.string ⟨#[]⟩, .int .u64 0] 28 (0, 0))).drew := ((Below.refl _ w).alloc (Nat.le_refl _) _).drew
  go_enter Try.func19, Try.ntmps19
  go_wp2
  refine wp_region_still_tail 9 (by kernel_rfl) (by kernel_rfl) ?_
  change wpStill Try.prog _ (World.drew (w.alloc _)) (fun a' => wpList Try.prog _ _ _ a' (World.drew (w.alloc _))) _ _
  have hlt := h.lt
  generalize (w.alloc (.cells #[.string ⟨#[]⟩, .int .u64 0] 28 (0, 0))).drew = wd at *
  have c25 := h1.c25
  have c0 := h1.txt at_ (by omega)
  have c1 := h1.scr at_ (by omega)
  have t0 := blk_cell hT 0
  have t1 := blk_cell hT 1
  have f0 := blk_frozen hT 0
  have f1 := blk_frozen hT 1
  have i0 : (at_ : Int) < 12 := by omega
  simp only [List.take_succ_cons, List.take_zero, List.drop_succ_cons, List.drop_zero]
  repeat still_step
  refine wpStill_nil ?_
  go_wp2_with fail
  obtain ⟨hT2, hK⟩ := ent2 wd w.heap.size (g at_).1 (g at_).2 hT rfl
  refine bodyPost_ret (v := .agg #[.string (g at_).1, .int .u64 (g at_).2]) ?_ rfl ⟨rfl, hB.trans (hK.below hB.size (fun k hk e => by omega))⟩
  exact results_cell_row (P := Try.prog) rfl _ _ w.heap.size 28 _ (0, 0) _ rfl hT2 Try.underlying28 rfl (by kernel_rfl)

/-- Replace, Scroll: what they leave -/
def Upd (b : Nat) (g : Nat → En) (last at_ : Nat) (w w' : World) : Prop := Pc w' b g last at_ ∧ Kp (fun i => i = b) w w'

set_option maxHeartbeats 1600000 in
theorem replace14 (s : ByteArray) (w : World) (h : Pc w b g last at_) (ha : at_ ≤ 11) :
    Calls Try.prog 14 #[.pointer (some ⟨b, 0, none⟩), .string s] w fun e w' => e = .returned (.tuple #[]) ∧ Upd b (putE g at_ (s, 0)) last at_ w w' := by
  have h1 := h.drew
  have hK : Kp (fun i => i = b) w w.drew := (Kp.refl _ w).drew
  go_enter Try.func14, Try.ntmps14
  refine wp_region_still_tail 10 (by kernel_rfl) (by kernel_rfl) ?_
  change wpStill Try.prog _ w.drew (fun a' => wpList Try.prog _ _ _ a' w.drew) _ _
  generalize w.drew = wd at *
  have c25 := h1.c25
  have c0 := h1.txt at_ (by omega)
  have c1 := h1.scr at_ (by omega)
  have f0 := h1.fro (at_ * 2)
  have f1 := h1.fro (at_ * 2 + 1)
  have i0 : (at_ : Int) < 12 := by omega
  simp only [List.take_succ_cons, List.take_zero, List.drop_succ_cons, List.drop_zero]
  repeat still_step
  refine wpStill_nil ?_
  go_wp2_with fail
  have h2 := h1.setEnt at_ (by omega) s 0
  have hK2 := (hK.setCell (p := ⟨b, at_ * 2, none⟩) (fun _ => rfl) (.string s)).setCell (p := ⟨b, at_ * 2 + 1, none⟩) (fun _ => rfl) (.int .u64 0)
  go_end0
  exact ⟨rfl, h2, hK2⟩

theorem clean' (x : Int) (w : World) (hx : U64 x) : Calls Try.prog 16 #[.int .u64 x] w fun e w' => e = .returned (.int .u64 (clI x)) ∧ w' = w :=
  (clean_any x w hx).mono fun _ _ ⟨a, b⟩ => ⟨a, b.symm⟩

set_option maxHeartbeats 1600000 in
theorem scroll15 (x : Int) (w : World) (h : Pc w b g last at_) (ha : at_ ≤ 11) (hx : U64 x) :
    Calls Try.prog 15 #[.pointer (some ⟨b, 0, none⟩), .int .u64 x] w fun e w' => e = .returned (.tuple #[]) ∧ Upd b (putE g at_ ((g at_).1, clI x)) last at_ w w' := by
  have h1 := h.drew
  have hK : Kp (fun i => i = b) w w.drew := (Kp.refl _ w).drew
  go_enter Try.func15, Try.ntmps15
  refine wp_region_still_tail 11 (by kernel_rfl) (by kernel_rfl) ?_
  change wpStill Try.prog _ w.drew (fun a' => wpList Try.prog _ _ _ a' w.drew) _ _
  generalize w.drew = wd at *
  have c25 := h1.c25
  have c1 := h1.scr at_ (by omega)
  have f1 := h1.fro (at_ * 2 + 1)
  have i0 : (at_ : Int) < 12 := by omega
  simp only [List.take_succ_cons, List.take_zero, List.drop_succ_cons, List.drop_zero]
  repeat still_step
  still_call (clean' x wd hx)
  repeat still_step
  refine wpStill_nil ?_
  go_wp2_with fail
  have h2 := h1.setScr at_ (by omega) (clI x)
  have hK2 := (hK.setCell (p := ⟨b, at_ * 2 + 1, none⟩) (fun _ => rfl) (.int .u64 (clI x)))
  go_end0
  exact ⟨rfl, h2, hK2⟩

set_option maxHeartbeats 1600000 in
theorem push9_full (s : ByteArray) (w : World) (h : Pc w b g last 11) :
    Calls Try.prog 9 #[.pointer (some ⟨b, 0, none⟩), .string s] w fun e w' => e = .returned (.int .i64 5) ∧ w' = w := by
  have c25 := h.c25
  clear h
  go_enter Try.func9, Try.ntmps9
  go_wp2
  go_ret
  exact ⟨rfl, rfl⟩

set_option maxHeartbeats 1600000 in
theorem push9_ok (s : ByteArray) (w : World) (h : Pc w b g last at_) (ha : at_ ≤ 10) :
    Calls Try.prog 9 #[.pointer (some ⟨b, 0, none⟩), .string s] w fun e w' => e = .returned (.int .i64 0) ∧ Upd b (putE (cutE g (at_ + 1)) (at_ + 1) (s, 0)) (at_ + 1) (at_ + 1) w w' := by
  have c25 := h.c25
  have f25 := h.fro 25
  have t11 : ((at_ : Int) == 11) = false := by simp; omega
  have h1 := h.setAt (at_ + 1)
  rw [show ((at_ + 1 : Nat) : Int) = (at_ : Int) + 1 by omega] at h1
  have hK := (Kp.refl (fun i => i = b) w).setCell (p := ⟨b, 25, none⟩) (fun _ => rfl) (.int .i64 ((at_ : Int) + 1))
  go_enter Try.func9, Try.ntmps9
  go_wp2
  have h2 := h1.drew
  have hK2 := hK.drew
  clear h1 hK
  refine wp_region_still_tail 8 (by kernel_rfl) (by kernel_rfl) ?_
  change wpStill Try.prog _ (World.drew (w.setCell _ _)) (fun a' => wpList Try.prog _ _ _ a' (World.drew (w.setCell _ _))) _ _
  generalize (w.setCell ⟨b, 25, none⟩ (.int .i64 ((at_ : Int) + 1))).drew = wd at *
  clear c25 f25
  have c25 := h2.c25
  have i0 : (at_ : Int) + 1 ≤ 12 := by omega
  have i1 : 0 ≤ (at_ : Int) + 1 := by omega
  have i2 : ¬ (12 : Nat) = at_ + 1 := by omega
  have i3 : ((at_ : Int) + 1).toNat = at_ + 1 := by omega
  simp only [List.take_succ_cons, List.take_zero, List.drop_succ_cons, List.drop_zero]
  repeat still_step
  refine wpStill_nil ?_
  obtain ⟨w3, hr, h3, hK3⟩ := h2.clear (at_ + 1) (11 - at_) (11 - at_) (by omega) (by omega) 0
  have hK4 := hK2.trans hK3 (fun i hi e => e)
  clear hK2 hK3 h2 c25
  have c25 := h3.c25
  have c24 := h3.c24
  have f24 := h3.fro 24
  have h4 := h3.setLast (at_ + 1)
  have hK5 := hK4.setCell (p := ⟨b, 24, none⟩) (fun _ => rfl) (.int .i64 ((at_ + 1 : Nat) : Int))
  rw [show ((at_ + 1 : Nat) : Int) = (at_ : Int) + 1 by omega] at h4 hK5
  go_wp2_with fail
  generalize w3.setCell ⟨b, 24, none⟩ (.int .i64 ((at_ : Int) + 1)) = w4 at *
  refine (replace14 s w4 h4 (by omega)).mono ?_
  rintro e w5 ⟨rfl, h5, hK6⟩
  go_wp2
  go_ret
  exact ⟨rfl, h5, hK5.trans hK6 (fun i hi e => e)⟩
end
end Go.Proofs.Ytbkhlmnonjkelaa
