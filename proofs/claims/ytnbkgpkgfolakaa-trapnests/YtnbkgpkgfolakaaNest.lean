/-
  TrapNests' closures, and Run over them: the inner Run catches; the outer throws, or doesn't.
-/
import Derived.Test.YtnbkgpkgfolakaaAsk
import Derived.StillTailTactics
namespace Go.Proofs.Ytnbkgpkgfolakaa
open Go.RowKit

theorem within_same (n h : Int) (w : World) (h0 : 0 ≤ h) (h1 : h ≤ 1000) :
    Calls Try.prog 12 #[.int .i64 n, .int .i64 0, .int .i64 h] w fun e w' => e = .returned (.int .i64 (wi n h)) ∧ w' = w :=
  (within_any n h w h0 h1).mono fun _ _ ⟨he, hw⟩ => ⟨he, hw.symm⟩

/-- "in", "out" -/
def tIn : ByteArray := ⟨#[105, 110]⟩
def tOut : ByteArray := ⟨#[111, 117, 116]⟩

set_option maxHeartbeats 400000 in
theorem closure18 (I : Nat) (i : Int) (w : World) (hI : w.cell? ⟨I, 0, none⟩ = some (.int .i64 i)) :
    Calls Try.prog 18 #[.pointer (some ⟨I, 0, none⟩)] w fun e w' => e = .panicked (thr 2 tIn i) ∧ w = w' := by
  go_enter Try.func18, Try.ntmps18
  go_wp2_with (go_at_call 9; refine (throw_any _ _ _ _).mono ?_; rintro e w' ⟨rfl, rfl⟩)
  exact ⟨rfl, rfl, rfl⟩

theorem cf18 (caps : Array Value) (w : World) : (callFunc 18 caps).run Try.prog w = .ok (.enter 18 caps) w := by simp [go_sem]
theorem cf17 (caps : Array Value) (w : World) : (callFunc 17 caps).run Try.prog w = .ok (.enter 17 caps) w := by simp [go_sem]

theorem run18 (I : Nat) (i : Int) (w : World) (hI : w.heap[I]? = some (.cells #[.int .i64 i] 3 (0, 0))) :
    Calls Try.prog 7 #[.func (.func 18) #[] #[.pointer (some ⟨I, 0, none⟩)]] w fun e w' => e = .returned (.tuple #[.agg #[.int .i64 2, .string tIn, .int .i64 i], .bool false]) ∧ Below w.heap.size w w' := by
  refine (run_thrown 18 _ 2 i tIn w (fun w1 => w1 = w2 w) (cf18 _) ?_).mono ?_
  · refine (closure18 I i _ (blk_cell (blk_alloc (blk_alloc hI _) _) 0)).mono ?_
    rintro e w' ⟨rfl, rfl⟩
    exact ⟨rfl, intact_w2 w, rfl⟩
  · rintro e w' ⟨rfl, w1, rfl, hk⟩
    exact ⟨rfl, ((w2_kp w _).trans hk (fun i hi h => h)).below (Nat.le_refl _) (fun k hk => by omega)⟩

set_option maxHeartbeats 1000000 in
set_option maxRecDepth 100000 in
theorem closure17_no (L I T V B g n cap k len c b off : Nat) (xs : List Value) (v : Int) (w : World) (h : LogAt L B g n cap xs w) (hn : n ≤ 100)
    (hI : w.heap[I]? = some (.cells #[.int .i64 k] 3 (0, 0))) (hT : w.heap[T]? = some (.cells #[.slice (some ⟨b, off, none⟩) len c] 36 (0, 0))) (hV : w.heap[V]? = some (.cells #[.int .i64 v] 3 (0, 0)))
    (hk : k < len) (hk12 : k < 12) (hb : w.cell? ⟨b, off + k, none⟩ = some (.bool false)) 
    (h1 : I ≠ L ∧ I ≠ g ∧ T ≠ L ∧ T ≠ g ∧ V ≠ L ∧ V ≠ g ∧ b ≠ L ∧ b ≠ g) :
    Calls Try.prog 17 #[.pointer (some ⟨L, 0, none⟩), .pointer (some ⟨I, 0, none⟩), .pointer (some ⟨T, 0, none⟩), .pointer (some ⟨V, 0, none⟩)] w fun e w' => e = .returned (.tuple #[]) ∧ Logged L B g (n + 1 + 1) (xs ++ [.int .i64 k, .int .i64 k]) w w' := by
  have HL := Lib.hid h
  have HI := Lib.hid hI
  have HT := Lib.hid hT
  have HV := Lib.hid hV
  have HB := Lib.hid hb
  have H1 := Lib.hid h1
  have c0 : w.cell? ⟨L, 0, none⟩ = some (.slice (some ⟨g, 0, none⟩) n cap) := blk_cell h.var 0
  have ci : w.cell? ⟨I, 0, none⟩ = some (.int .i64 k) := blk_cell hI 0
  have hL : L < w.heap.size := blk_lt h.var
  have hBB := h.base
  clear h hI hT hV hb h1
  go_enter Try.func17, Try.ntmps17
  go_wp2_with (at_builtin; refine wpList_log _ rfl (.tmp 6) (.tmp 8) rfl B g n cap xs (by rfl) (HL.out.own.alloc _) (by omega) (by simp; omega) w.heap.size 1 1 #[.int .i64 k] (by rfl) rfl (by omega) (by omega) (blk_new _ _) (by simp [Value.oneCell']) (w.heap.size + 1) (by simp) ?_)
  intro g' cap' w1 hown hgrow hat hlt
  obtain ⟨k0, k1⟩ := logged_cell HL.out hgrow
  have hfin := Lib.hid (logged_of HL.out hown hgrow hat)
  clear hown hgrow hat hlt
  go_wp2_with fail
  generalize w1.setCell ⟨L, 0, none⟩ (.slice (some ⟨g', 0, none⟩) (n + 1) cap') = wa at *
  clear k0 k1 c0 ci
  obtain ⟨g2, cap2, hl2, hk2, hg2⟩ := hfin.out
  obtain ⟨n1, n2, n3, n4, n5, n6, n7, n8⟩ := H1.out
  refine (run18 I k wa ((hk2.block I (blk_lt HI.out) (by omega)).trans HI.out)).mono ?_
  rintro e w3 ⟨rfl, hb3⟩
  have hkk : Hid (Kp (fun k => k = L ∨ k = g) w (w3.alloc (.cells #[.int .i64 2, .string tIn, .int .i64 k] 24))) := (hk2.trans (Kp.of_below hb3 _) (fun _ _ t => t)).alloc _
  have hl3 : Hid (LogAt L B g2 (n + 1) cap2 (xs ++ [.int .i64 k]) (w3.alloc (.cells #[.int .i64 2, .string tIn, .int .i64 k] 24))) := hl2.kp ((Kp.of_below hb3 (fun _ => False)).alloc _) (fun t => t) (fun t => t)
  have c0 : (w3.alloc (.cells #[.int .i64 2, .string tIn, .int .i64 k] 24)).cell? ⟨L, 0, none⟩ = some (.slice (some ⟨g2, 0, none⟩) (n + 1) cap2) := blk_cell hl3.out.var 0
  have hB3 : B ≤ w3.heap.size := by have := hl2.base; have := hb3.size; omega
  have hG2 := Lib.hid hg2
  clear hfin hl2 hk2 hg2 hb3 n1 n2 n3 n4 n5 n6 n7 n8
  go_wp2_with (at_builtin; refine wpList_log _ rfl (.tmp 15) (.tmp 18) rfl B g2 (n + 1) cap2 _ (by rfl) (hl3.out.own.alloc _) (by omega) (by simp; omega) (w3.heap.size + 1) 1 1 #[.int .i64 k] (by rfl) rfl (by omega) (by omega) (by simpa using blk_new (w3.alloc (.cells #[.int .i64 2, .string tIn, .int .i64 k] 24)) (.cells #[.int .i64 k] 3)) (by simp [Value.oneCell']) (w3.heap.size + 1 + 1) (by simp) ?_)
  intro g3 cap3 w4 hown hgrow hat hlt
  obtain ⟨k0, k1⟩ := logged_cell hl3.out hgrow
  have hfin := Lib.hid (logged_trans hkk.out hG2.out (logged_of hl3.out hown hgrow (by simpa using hat)))
  clear hown hgrow hat hlt c0
  go_wp2_with fail
  generalize w4.setCell ⟨L, 0, none⟩ (.slice (some ⟨g3, 0, none⟩) (n + 1 + 1) cap3) = wb at *
  obtain ⟨dI, dT, dV, dB⟩ : wb.cell? ⟨I, 0, none⟩ = some (.int .i64 k) ∧ wb.cell? ⟨T, 0, none⟩ = some (.slice (some ⟨b, off, none⟩) len c) ∧ wb.cell? ⟨V, 0, none⟩ = some (.int .i64 v) ∧ wb.cell? ⟨b, off + k, none⟩ = some (.bool false) := by
    obtain ⟨g4, cap4, hl4, hk4, hg4⟩ := hfin.out
    obtain ⟨n1, n2, n3, n4, n5, n6, n7, n8⟩ := H1.out
    exact ⟨blk_cell ((hk4.block I (blk_lt HI.out) (by omega)).trans HI.out) 0, blk_cell ((hk4.block T (blk_lt HT.out) (by omega)).trans HT.out) 0, blk_cell ((hk4.block V (blk_lt HV.out) (by omega)).trans HV.out) 0, (hk4.cell (p := ⟨b, off + k, none⟩) (World.block_lt_of_cell? w _ HB.out) (by show ¬ (b = L ∨ b = g); omega)).trans HB.out⟩
  have i0 : (0 : Int) ≤ (k : Int) := by omega
  have i1 : (k : Int) < (len : Int) := by omega
  have i2 : (k : Int) < 12 := by omega
  obtain ⟨j0, j1⟩ := wi_bd v 99 (by omega)
  clear k0 k1
  have hfin : Hid (Logged L B g (n + 1 + 1) (xs ++ [.int .i64 k, .int .i64 k]) w wb.drew) := by
    obtain ⟨g4, cap4, hl4, hk4, hg4⟩ := hfin.out
    exact ⟨g4, cap4, hl4.kp ((Kp.refl (fun _ => False) wb).drew) (fun t => t) (fun t => t), hk4.drew, hg4⟩
  change wb.drew.cell? _ = _ at dI dT dV dB
  refine wp_region_still_tail 12 (by kernel_rfl) (by kernel_rfl) ?_
  change wpStill Try.prog _ wb.drew (fun a' => wpList Try.prog _ _ _ a' wb.drew) _ _
  generalize wb.drew = wd at *
  simp only [List.take_succ_cons, List.take_zero, List.drop_succ_cons, List.drop_zero]
  repeat still_step
  still_call (within_same v 99 wd (by omega) (by omega))
  repeat still_step
  refine wpStill_nil ?_
  go_wp2_with fail
  refine (must_yes _ _ _ _).mono ?_
  rintro e w' ⟨rfl, rfl⟩
  go_wp2_with fail
  go_end0
  exact ⟨rfl, hfin.out⟩

set_option maxHeartbeats 1000000 in
set_option maxRecDepth 100000 in
theorem closure17_yes (L I T V B g n cap k len c b off : Nat) (xs : List Value) (v : Int) (w : World) (h : LogAt L B g n cap xs w) (hn : n ≤ 100)
    (hI : w.heap[I]? = some (.cells #[.int .i64 k] 3 (0, 0))) (hT : w.heap[T]? = some (.cells #[.slice (some ⟨b, off, none⟩) len c] 36 (0, 0))) (hV : w.heap[V]? = some (.cells #[.int .i64 v] 3 (0, 0)))
    (hk : k < len) (hk12 : k < 12) (hb : w.cell? ⟨b, off + k, none⟩ = some (.bool true)) 
    (h1 : I ≠ L ∧ I ≠ g ∧ T ≠ L ∧ T ≠ g ∧ V ≠ L ∧ V ≠ g ∧ b ≠ L ∧ b ≠ g) :
    Calls Try.prog 17 #[.pointer (some ⟨L, 0, none⟩), .pointer (some ⟨I, 0, none⟩), .pointer (some ⟨T, 0, none⟩), .pointer (some ⟨V, 0, none⟩)] w fun e w' => e = .panicked (thr 3 tOut ((k : Int) + wi v 99)) ∧ Logged L B g (n + 1 + 1) (xs ++ [.int .i64 k, .int .i64 k]) w w' := by
  have HL := Lib.hid h
  have HI := Lib.hid hI
  have HT := Lib.hid hT
  have HV := Lib.hid hV
  have HB := Lib.hid hb
  have H1 := Lib.hid h1
  have c0 : w.cell? ⟨L, 0, none⟩ = some (.slice (some ⟨g, 0, none⟩) n cap) := blk_cell h.var 0
  have ci : w.cell? ⟨I, 0, none⟩ = some (.int .i64 k) := blk_cell hI 0
  have hL : L < w.heap.size := blk_lt h.var
  have hBB := h.base
  clear h hI hT hV hb h1
  go_enter Try.func17, Try.ntmps17
  go_wp2_with (at_builtin; refine wpList_log _ rfl (.tmp 6) (.tmp 8) rfl B g n cap xs (by rfl) (HL.out.own.alloc _) (by omega) (by simp; omega) w.heap.size 1 1 #[.int .i64 k] (by rfl) rfl (by omega) (by omega) (blk_new _ _) (by simp [Value.oneCell']) (w.heap.size + 1) (by simp) ?_)
  intro g' cap' w1 hown hgrow hat hlt
  obtain ⟨k0, k1⟩ := logged_cell HL.out hgrow
  have hfin := Lib.hid (logged_of HL.out hown hgrow hat)
  clear hown hgrow hat hlt
  go_wp2_with fail
  generalize w1.setCell ⟨L, 0, none⟩ (.slice (some ⟨g', 0, none⟩) (n + 1) cap') = wa at *
  clear k0 k1 c0 ci
  obtain ⟨g2, cap2, hl2, hk2, hg2⟩ := hfin.out
  obtain ⟨n1, n2, n3, n4, n5, n6, n7, n8⟩ := H1.out
  refine (run18 I k wa ((hk2.block I (blk_lt HI.out) (by omega)).trans HI.out)).mono ?_
  rintro e w3 ⟨rfl, hb3⟩
  have hkk : Hid (Kp (fun k => k = L ∨ k = g) w (w3.alloc (.cells #[.int .i64 2, .string tIn, .int .i64 k] 24))) := (hk2.trans (Kp.of_below hb3 _) (fun _ _ t => t)).alloc _
  have hl3 : Hid (LogAt L B g2 (n + 1) cap2 (xs ++ [.int .i64 k]) (w3.alloc (.cells #[.int .i64 2, .string tIn, .int .i64 k] 24))) := hl2.kp ((Kp.of_below hb3 (fun _ => False)).alloc _) (fun t => t) (fun t => t)
  have c0 : (w3.alloc (.cells #[.int .i64 2, .string tIn, .int .i64 k] 24)).cell? ⟨L, 0, none⟩ = some (.slice (some ⟨g2, 0, none⟩) (n + 1) cap2) := blk_cell hl3.out.var 0
  have hB3 : B ≤ w3.heap.size := by have := hl2.base; have := hb3.size; omega
  have hG2 := Lib.hid hg2
  clear hfin hl2 hk2 hg2 hb3 n1 n2 n3 n4 n5 n6 n7 n8
  go_wp2_with (at_builtin; refine wpList_log _ rfl (.tmp 15) (.tmp 18) rfl B g2 (n + 1) cap2 _ (by rfl) (hl3.out.own.alloc _) (by omega) (by simp; omega) (w3.heap.size + 1) 1 1 #[.int .i64 k] (by rfl) rfl (by omega) (by omega) (by simpa using blk_new (w3.alloc (.cells #[.int .i64 2, .string tIn, .int .i64 k] 24)) (.cells #[.int .i64 k] 3)) (by simp [Value.oneCell']) (w3.heap.size + 1 + 1) (by simp) ?_)
  intro g3 cap3 w4 hown hgrow hat hlt
  obtain ⟨k0, k1⟩ := logged_cell hl3.out hgrow
  have hfin := Lib.hid (logged_trans hkk.out hG2.out (logged_of hl3.out hown hgrow (by simpa using hat)))
  clear hown hgrow hat hlt c0
  go_wp2_with fail
  generalize w4.setCell ⟨L, 0, none⟩ (.slice (some ⟨g3, 0, none⟩) (n + 1 + 1) cap3) = wb at *
  obtain ⟨dI, dT, dV, dB⟩ : wb.cell? ⟨I, 0, none⟩ = some (.int .i64 k) ∧ wb.cell? ⟨T, 0, none⟩ = some (.slice (some ⟨b, off, none⟩) len c) ∧ wb.cell? ⟨V, 0, none⟩ = some (.int .i64 v) ∧ wb.cell? ⟨b, off + k, none⟩ = some (.bool true) := by
    obtain ⟨g4, cap4, hl4, hk4, hg4⟩ := hfin.out
    obtain ⟨n1, n2, n3, n4, n5, n6, n7, n8⟩ := H1.out
    exact ⟨blk_cell ((hk4.block I (blk_lt HI.out) (by omega)).trans HI.out) 0, blk_cell ((hk4.block T (blk_lt HT.out) (by omega)).trans HT.out) 0, blk_cell ((hk4.block V (blk_lt HV.out) (by omega)).trans HV.out) 0, (hk4.cell (p := ⟨b, off + k, none⟩) (World.block_lt_of_cell? w _ HB.out) (by show ¬ (b = L ∨ b = g); omega)).trans HB.out⟩
  have i0 : (0 : Int) ≤ (k : Int) := by omega
  have i1 : (k : Int) < (len : Int) := by omega
  have i2 : (k : Int) < 12 := by omega
  obtain ⟨j0, j1⟩ := wi_bd v 99 (by omega)
  have jw : IntKind.i64.wrap ((k : Int) + wi v 99) = (k : Int) + wi v 99 := IntWalk.i64_in _ (by omega)
  clear k0 k1
  have hfin : Hid (Logged L B g (n + 1 + 1) (xs ++ [.int .i64 k, .int .i64 k]) w wb.drew) := by
    obtain ⟨g4, cap4, hl4, hk4, hg4⟩ := hfin.out
    exact ⟨g4, cap4, hl4.kp ((Kp.refl (fun _ => False) wb).drew) (fun t => t) (fun t => t), hk4.drew, hg4⟩
  change wb.drew.cell? _ = _ at dI dT dV dB
  refine wp_region_still_tail 12 (by kernel_rfl) (by kernel_rfl) ?_
  change wpStill Try.prog _ wb.drew (fun a' => wpList Try.prog _ _ _ a' wb.drew) _ _
  generalize wb.drew = wd at *
  simp only [List.take_succ_cons, List.take_zero, List.drop_succ_cons, List.drop_zero]
  repeat still_step
  still_call (within_same v 99 wd (by omega) (by omega))
  repeat still_step
  refine wpStill_nil ?_
  go_wp2_with fail
  refine (must_no _ _ _ _).mono ?_
  rintro e w' ⟨rfl, rfl⟩
  exact ⟨rfl, rfl, hfin.out⟩

theorem run17_no (L I T V B g n cap k len c b off : Nat) (xs : List Value) (v : Int) (w : World) (h : LogAt L B g n cap xs w) (hn : n ≤ 100)
    (hI : w.heap[I]? = some (.cells #[.int .i64 k] 3 (0, 0))) (hT : w.heap[T]? = some (.cells #[.slice (some ⟨b, off, none⟩) len c] 36 (0, 0))) (hV : w.heap[V]? = some (.cells #[.int .i64 v] 3 (0, 0)))
    (hk : k < len) (hk12 : k < 12) (hb : w.cell? ⟨b, off + k, none⟩ = some (.bool false))
    (h1 : I ≠ L ∧ I ≠ g ∧ T ≠ L ∧ T ≠ g ∧ V ≠ L ∧ V ≠ g ∧ b ≠ L ∧ b ≠ g) :
    Calls Try.prog 7 #[.func (.func 17) #[] #[.pointer (some ⟨L, 0, none⟩), .pointer (some ⟨I, 0, none⟩), .pointer (some ⟨T, 0, none⟩), .pointer (some ⟨V, 0, none⟩)]] w fun e w' =>
      e = .returned (.tuple #[.agg #[.int .i64 0, .string ⟨#[]⟩, .int .i64 0], .bool true]) ∧ Logged L B g (n + 1 + 1) (xs ++ [.int .i64 k, .int .i64 k]) w w' := by
  refine (run_ret 17 _ w (fun w1 => Logged L B g (n + 1 + 1) (xs ++ [.int .i64 k, .int .i64 k]) (w2 w) w1) (cf17 _) ?_).mono ?_
  · refine (closure17_no L I T V B g n cap k len c b off xs v (w2 w) (w2_log h) hn (blk_alloc (blk_alloc hI _) _) (blk_alloc (blk_alloc hT _) _) (blk_alloc (blk_alloc hV _) _) hk hk12 (((w2_kp w (fun _ => False)).cell (p := ⟨b, off + k, none⟩) (World.block_lt_of_cell? w _ hb) (fun t => t)).trans hb) h1).mono ?_
    rintro e w' ⟨rfl, hm⟩
    exact ⟨rfl, intact_log h hm, hm⟩
  · rintro e w' ⟨rfl, w1, hm, hk⟩
    exact ⟨rfl, logged_run h hm hk⟩

theorem run17_yes (L I T V B g n cap k len c b off : Nat) (xs : List Value) (v : Int) (w : World) (h : LogAt L B g n cap xs w) (hn : n ≤ 100)
    (hI : w.heap[I]? = some (.cells #[.int .i64 k] 3 (0, 0))) (hT : w.heap[T]? = some (.cells #[.slice (some ⟨b, off, none⟩) len c] 36 (0, 0))) (hV : w.heap[V]? = some (.cells #[.int .i64 v] 3 (0, 0)))
    (hk : k < len) (hk12 : k < 12) (hb : w.cell? ⟨b, off + k, none⟩ = some (.bool true))
    (h1 : I ≠ L ∧ I ≠ g ∧ T ≠ L ∧ T ≠ g ∧ V ≠ L ∧ V ≠ g ∧ b ≠ L ∧ b ≠ g) :
    Calls Try.prog 7 #[.func (.func 17) #[] #[.pointer (some ⟨L, 0, none⟩), .pointer (some ⟨I, 0, none⟩), .pointer (some ⟨T, 0, none⟩), .pointer (some ⟨V, 0, none⟩)]] w fun e w' =>
      e = .returned (.tuple #[.agg #[.int .i64 3, .string tOut, .int .i64 ((k : Int) + wi v 99)], .bool false]) ∧ Logged L B g (n + 1 + 1) (xs ++ [.int .i64 k, .int .i64 k]) w w' := by
  refine (run_thrown 17 _ 3 ((k : Int) + wi v 99) tOut w (fun w1 => Logged L B g (n + 1 + 1) (xs ++ [.int .i64 k, .int .i64 k]) (w2 w) w1) (cf17 _) ?_).mono ?_
  · refine (closure17_yes L I T V B g n cap k len c b off xs v (w2 w) (w2_log h) hn (blk_alloc (blk_alloc hI _) _) (blk_alloc (blk_alloc hT _) _) (blk_alloc (blk_alloc hV _) _) hk hk12 (((w2_kp w (fun _ => False)).cell (p := ⟨b, off + k, none⟩) (World.block_lt_of_cell? w _ hb) (fun t => t)).trans hb) h1).mono ?_
    rintro e w' ⟨rfl, hm⟩
    exact ⟨rfl, intact_log h hm, hm⟩
  · rintro e w' ⟨rfl, w1, hm, hk⟩
    exact ⟨rfl, logged_run h hm hk⟩
end Go.Proofs.Ytnbkgpkgfolakaa
