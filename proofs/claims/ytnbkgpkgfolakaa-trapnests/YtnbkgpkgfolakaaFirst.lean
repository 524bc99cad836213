/-
  First over the functions of TrapNests: none throws; one does; there is none at all.
-/
import Derived.Test.YtnbkgpkgfolakaaNest
namespace Go.Proofs.Ytnbkgpkgfolakaa
open Go.RowKit

/-- 0, 0, 1, 1, .. -/
def dbl : Nat → List Value
  | 0 => []
  | k + 1 => dbl k ++ [.int .i64 (k : Int), .int .i64 (k : Int)]

/-- the k-th function -/
def clo (L T V x : Nat) : Value := .func (.func 17) #[] #[.pointer (some ⟨L, 0, none⟩), .pointer (some ⟨x, 0, none⟩), .pointer (some ⟨T, 0, none⟩), .pointer (some ⟨V, 0, none⟩)]

/-- The functions in block q, each with its own i, and what they read. -/
structure Fns (L T V q g : Nat) (Is : List Nat) (b off len c : Nat) (v : Int) (f : Nat → Bool) (w : World) : Prop where
  fi : ∀ (j x : Nat), Is[j]? = some x → w.heap[x]? = some (.cells #[.int .i64 (j : Int)] 3 (0, 0)) ∧ x ≠ L ∧ x ≠ g
  fn : ∀ (j x : Nat), Is[j]? = some x → w.cell? ⟨q, j, none⟩ = some (clo L T V x)
  ft : w.heap[T]? = some (.cells #[.slice (some ⟨b, off, none⟩) len c] 36 (0, 0))
  fv : w.heap[V]? = some (.cells #[.int .i64 v] 3 (0, 0))
  fb : ∀ j, j < len → w.cell? ⟨b, off + j, none⟩ = some (.bool (f j))
  ql : q < w.heap.size
  bl : b < w.heap.size
  ne : T ≠ L ∧ T ≠ g ∧ V ≠ L ∧ V ≠ g ∧ b ≠ L ∧ b ≠ g ∧ q ≠ L ∧ q ≠ g

theorem Fns.kp {L T V q g g' : Nat} {Is : List Nat} {b off len c : Nat} {v : Int} {f : Nat → Bool} {w w' : World} (h : Fns L T V q g Is b off len c v f w) (hk : Kp (fun k => k = L ∨ k = g) w w') (hg : g' = g ∨ w.heap.size ≤ g') :
    Fns L T V q g' Is b off len c v f w' := by
  obtain ⟨hi, hfn, ht, hv, hb, hq, hbl, n1, n2, n3, n4, n5, n6, n7, n8⟩ := h
  have lt := blk_lt ht
  have lv := blk_lt hv
  have hs := hk.size
  refine ⟨fun j x hx => ?_, fun j x hx => ?_, (hk.block T lt (by omega)).trans ht, (hk.block V lv (by omega)).trans hv, fun j hj => ?_, by omega, by omega, n1, by omega, n3, by omega, n5, by omega, n7, by omega⟩
  · obtain ⟨a1, a2, a3⟩ := hi j x hx
    have := blk_lt a1
    exact ⟨(hk.block x this (by omega)).trans a1, a2, by omega⟩
  · exact (hk.cell (p := ⟨q, j, none⟩) hq (by show ¬ (q = L ∨ q = g); omega)).trans (hfn j x hx)
  · exact (hk.cell (p := ⟨b, off + j, none⟩) hbl (by show ¬ (b = L ∨ b = g); omega)).trans (hb j hj)

/-- it stands where nothing old turns -/
theorem Fns.still {L T V q g : Nat} {Is : List Nat} {b off len c : Nat} {v : Int} {f : Nat → Bool} {w w' : World} (h : Fns L T V q g Is b off len c v f w) (hk : Kp (fun _ => False) w w') : Fns L T V q g Is b off len c v f w' :=
  h.kp (hk.mono (fun _ _ t => t.elim)) (Or.inl rfl)

theorem kp_set3 (w : World) (b : Nat) (x y z : Value) : Kp (fun i => i = b) w (((w.setCell ⟨b, 0, none⟩ x).setCell ⟨b, 1, none⟩ y).setCell ⟨b, 2, none⟩ z) :=
  (((Kp.refl (fun i => i = b) w).setCell (p := ⟨b, 0, none⟩) (fun _ => rfl) x).setCell (p := ⟨b, 1, none⟩) (fun _ => rfl) y).setCell (p := ⟨b, 2, none⟩) (fun _ => rfl) z

/-- First's loop -/
def Firsting (L T V q B R0 g0 : Nat) (Is : List Nat) (b off len c : Nat) (v : Int) (f : Nat → Bool) (p : Nat) (w : World) (s : Value) (wr : World) : Prop :=
  ∃ (k g cap : Nat), k ≤ p ∧ s = .int .i64 (k : Int) ∧ LogAt L B g (2 * k) cap (dbl k) wr ∧ Fns L T V q g Is b off len c v f wr ∧ Kp (fun x => x = L ∨ x = g0) w wr ∧ (g = g0 ∨ w.heap.size ≤ g) ∧
    wr.heap[R0]? = some (.cells #[.int .i64 0, .string ⟨#[]⟩, .int .i64 0] 24 (0, 0)) ∧ R0 ≠ L ∧ R0 ≠ g

set_option maxHeartbeats 1000000 in
set_option maxRecDepth 100000 in
theorem first_none (L T V q B g0 cap0 m cf : Nat) (Is : List Nat) (b off len c : Nat) (v : Int) (f : Nat → Bool) (w : World) (hl : LogAt L B g0 0 cap0 [] w) (hf : Fns L T V q g0 Is b off len c v f w) (hm : Is.length = m) (hmb : m ≤ len ∧ m ≤ 12) (hno : ∀ j, j < m → f j = false) :
    Calls Try.prog 19 #[.slice (some ⟨q, 0, none⟩) m cf] w fun e w' => e = .returned (.tuple #[.agg #[.int .i64 0, .string ⟨#[]⟩, .int .i64 0], .int .i64 (-1)]) ∧ Logged L B g0 (2 * m) (dbl m) w w' := by
  have HL := Lib.hid hl
  have HF := Lib.hid hf
  have HM := Lib.hid hm
  have HN := Lib.hid hno
  have hm1 := hmb.1
  have hm2 := hmb.2
  clear hl hf hm hno hmb
  go_enter Try.func19, Try.ntmps19
  go_wp2_with fail
  go_loopw [10] (Firsting L T V q B w.heap.size g0 Is b off len c v f m w) (fun i _ => m - (intOf i).toNat)
  case atStart =>
    have k0 : Kp (fun _ => False) w (w.alloc (.cells #[.int .i64 0, .string ⟨#[]⟩, .int .i64 0] 24)) := (Kp.refl _ _).alloc _
    have hg := HL.out.lt
    have hL := blk_lt HL.out.var
    exact ⟨0, g0, cap0, Nat.zero_le _, rfl, HL.out.kp k0 (fun t => t) (fun t => t), HF.out.still k0, (Kp.refl _ _).alloc _, Or.inl rfl, blk_new _ _, by omega, by omega⟩
  case round =>
    obtain ⟨k, g, cap, hk, rfl, hl, hf, hkp, hg, hr, hr1, hr2⟩ := hrel
    by_cases hlt : k < m
    · have h1 : (k : Int) < (m : Int) := by omega
      have h0 : (0 : Int) ≤ (k : Int) := by omega
      obtain ⟨x, hx⟩ : ∃ x, Is[k]? = some x := ⟨Is[k]'(by have := HM.out; omega), by simp⟩
      have cq : wr.cell? ⟨q, k, none⟩ = some (.func (.func 17) #[] #[.pointer (some ⟨L, 0, none⟩), .pointer (some ⟨x, 0, none⟩), .pointer (some ⟨T, 0, none⟩), .pointer (some ⟨V, 0, none⟩)]) := hf.fn k x hx
      obtain ⟨a1, a2, a3⟩ := hf.fi k x hx
      obtain ⟨n1, n2, n3, n4, n5, n6, n7, n8⟩ := hf.ne
      have cb := hf.fb k (by omega)
      rw [HN.out k hlt] at cb
      have hrun := Lib.hid (run17_no L x T V B g (2 * k) cap k len c b off (dbl k) v wr hl (by omega) a1 hf.ft hf.fv (by omega) (by omega) cb ⟨a2, a3, n1, n2, n3, n4, n5, n6⟩)
      have HF1 := Lib.hid hf
      have HK := Lib.hid hkp
      have HG := Lib.hid hg
      have HR := Lib.hid hr
      clear hx a1 a2 a3 n1 n2 n3 n4 n5 n6 n7 n8 cb hf hkp hg hr hl
      go_wp2_with fail
      refine hrun.out.mono ?_
      clear hrun
      rintro e w1 ⟨rfl, g1, cap1, hl1, hk1, hg1⟩
      have hrel : Hid (Firsting L T V q B w.heap.size g0 Is b off len c v f m w (.int .i64 ((k : Int) + 1)) (w1.alloc (.cells #[.int .i64 0, .string ⟨#[]⟩, .int .i64 0] 24))) := by
        have kk : Kp (fun _ => False) w1 (w1.alloc (.cells #[.int .i64 0, .string ⟨#[]⟩, .int .i64 0] 24)) := (Kp.refl _ _).alloc _
        have hs := HK.out.size
        have hg := HG.out
        have hrl := blk_lt HR.out
        refine ⟨k + 1, g1, cap1, by omega, rfl, ?_, (HF1.out.kp hk1 hg1).still kk, (HK.out.trans hk1 (fun i hi t => by omega)).alloc _, by omega, blk_alloc ((hk1.block _ hrl (by omega)).trans HR.out) _, hr1, by omega⟩
        have := hl1.kp kk (fun t => t) (fun t => t)
        simpa [dbl, Nat.mul_add] using this
      clear hl1 hk1 hg1
      go_wp2_with fail
      go_roundw
      case rel => exact hrel.out
      case measure => simp [intOf]; omega
    · obtain rfl : k = m := by omega
      have c0 := blk_cell hr 0
      have c1 := blk_cell hr 1
      have c2 := blk_cell hr 2
      have f0 := blk_frozen hr 0
      have f1 := blk_frozen hr 1
      have f2 := blk_frozen hr 2
      have hfin : Hid (∀ x y z : Value, Logged L B g0 (2 * k) (dbl k) w (((wr.setCell ⟨w.heap.size, 0, none⟩ x).setCell ⟨w.heap.size, 1, none⟩ y).setCell ⟨w.heap.size, 2, none⟩ z)) := by
        intro x y z
        have kk : Kp (fun i => i = w.heap.size) wr (((wr.setCell ⟨w.heap.size, 0, none⟩ x).setCell ⟨w.heap.size, 1, none⟩ y).setCell ⟨w.heap.size, 2, none⟩ z) := kp_set3 wr w.heap.size x y z
        exact ⟨g, cap, hl.kp kk (Ne.symm hr1) (Ne.symm hr2), hkp.trans kk (fun i hi t => by omega), hg⟩
      clear hl hf hkp hg hr hr1 hr2
      go_wp2_with fail
      exact bodyPost_ret (v := .tuple #[.agg #[.int .i64 0, .string ⟨#[]⟩, .int .i64 0], .int .i64 (-1)]) (by simp [results, Try.results19, go_sem, c0, c1, c2]) rfl ⟨rfl, hfin.out _ _ _⟩
set_option maxHeartbeats 1000000 in
set_option maxRecDepth 100000 in
theorem first_some (L T V q B g0 cap0 m cf p : Nat) (Is : List Nat) (b off len c : Nat) (v : Int) (f : Nat → Bool) (w : World) (hl : LogAt L B g0 0 cap0 [] w) (hf : Fns L T V q g0 Is b off len c v f w) (hm : Is.length = m) (hmb : m ≤ len ∧ m ≤ 12) (hp : p < m) (hno : ∀ j, j < p → f j = false) (hyes : f p = true) :
    Calls Try.prog 19 #[.slice (some ⟨q, 0, none⟩) m cf] w fun e w' => e = .returned (.tuple #[.agg #[.int .i64 3, .string tOut, .int .i64 ((p : Int) + wi v 99)], .int .i64 (p : Int)]) ∧ Logged L B g0 (2 * (p + 1)) (dbl (p + 1)) w w' := by
  have HL := Lib.hid hl
  have HF := Lib.hid hf
  have HM := Lib.hid hm
  have HN := Lib.hid hno
  have HY := Lib.hid hyes
  have hm1 := hmb.1
  have hm2 := hmb.2
  clear hl hf hm hno hmb hyes
  go_enter Try.func19, Try.ntmps19
  go_wp2_with fail
  go_loopw [10] (Firsting L T V q B w.heap.size g0 Is b off len c v f p w) (fun i _ => p - (intOf i).toNat)
  case atStart =>
    have k0 : Kp (fun _ => False) w (w.alloc (.cells #[.int .i64 0, .string ⟨#[]⟩, .int .i64 0] 24)) := (Kp.refl _ _).alloc _
    have hg := HL.out.lt
    have hL := blk_lt HL.out.var
    exact ⟨0, g0, cap0, Nat.zero_le _, rfl, HL.out.kp k0 (fun t => t) (fun t => t), HF.out.still k0, (Kp.refl _ _).alloc _, Or.inl rfl, blk_new _ _, by omega, by omega⟩
  case round =>
    obtain ⟨k, g, cap, hk, rfl, hl, hf, hkp, hg, hr, hr1, hr2⟩ := hrel
    by_cases hlt : k < p
    · have h1 : (k : Int) < (m : Int) := by omega
      have h0 : (0 : Int) ≤ (k : Int) := by omega
      obtain ⟨x, hx⟩ : ∃ x, Is[k]? = some x := ⟨Is[k]'(by have := HM.out; omega), by simp⟩
      have cq : wr.cell? ⟨q, k, none⟩ = some (.func (.func 17) #[] #[.pointer (some ⟨L, 0, none⟩), .pointer (some ⟨x, 0, none⟩), .pointer (some ⟨T, 0, none⟩), .pointer (some ⟨V, 0, none⟩)]) := hf.fn k x hx
      obtain ⟨a1, a2, a3⟩ := hf.fi k x hx
      obtain ⟨n1, n2, n3, n4, n5, n6, n7, n8⟩ := hf.ne
      have cb := hf.fb k (by omega)
      rw [HN.out k hlt] at cb
      have hrun := Lib.hid (run17_no L x T V B g (2 * k) cap k len c b off (dbl k) v wr hl (by omega) a1 hf.ft hf.fv (by omega) (by omega) cb ⟨a2, a3, n1, n2, n3, n4, n5, n6⟩)
      have HF1 := Lib.hid hf
      have HK := Lib.hid hkp
      have HG := Lib.hid hg
      have HR := Lib.hid hr
      clear hx a1 a2 a3 n1 n2 n3 n4 n5 n6 n7 n8 cb hf hkp hg hr hl
      go_wp2_with fail
      refine hrun.out.mono ?_
      clear hrun
      rintro e w1 ⟨rfl, g1, cap1, hl1, hk1, hg1⟩
      have hrel : Hid (Firsting L T V q B w.heap.size g0 Is b off len c v f p w (.int .i64 ((k : Int) + 1)) (w1.alloc (.cells #[.int .i64 0, .string ⟨#[]⟩, .int .i64 0] 24))) := by
        have kk : Kp (fun _ => False) w1 (w1.alloc (.cells #[.int .i64 0, .string ⟨#[]⟩, .int .i64 0] 24)) := (Kp.refl _ _).alloc _
        have hs := HK.out.size
        have hg := HG.out
        have hrl := blk_lt HR.out
        refine ⟨k + 1, g1, cap1, by omega, rfl, ?_, (HF1.out.kp hk1 hg1).still kk, (HK.out.trans hk1 (fun i hi t => by omega)).alloc _, by omega, blk_alloc ((hk1.block _ hrl (by omega)).trans HR.out) _, hr1, by omega⟩
        have := hl1.kp kk (fun t => t) (fun t => t)
        simpa [dbl, Nat.mul_add] using this
      clear hl1 hk1 hg1
      go_wp2_with fail
      go_roundw
      case rel => exact hrel.out
      case measure => simp [intOf]; omega
    · obtain rfl : k = p := by omega
      have h1 : (k : Int) < (m : Int) := by omega
      have h0 : (0 : Int) ≤ (k : Int) := by omega
      obtain ⟨x, hx⟩ : ∃ x, Is[k]? = some x := ⟨Is[k]'(by have := HM.out; omega), by simp⟩
      have cq : wr.cell? ⟨q, k, none⟩ = some (.func (.func 17) #[] #[.pointer (some ⟨L, 0, none⟩), .pointer (some ⟨x, 0, none⟩), .pointer (some ⟨T, 0, none⟩), .pointer (some ⟨V, 0, none⟩)]) := hf.fn k x hx
      obtain ⟨a1, a2, a3⟩ := hf.fi k x hx
      obtain ⟨n1, n2, n3, n4, n5, n6, n7, n8⟩ := hf.ne
      have cb := hf.fb k (by omega)
      rw [HY.out] at cb
      have hrun := Lib.hid (run17_yes L x T V B g (2 * k) cap k len c b off (dbl k) v wr hl (by omega) a1 hf.ft hf.fv (by omega) (by omega) cb ⟨a2, a3, n1, n2, n3, n4, n5, n6⟩)
      have HF1 := Lib.hid hf
      have HK := Lib.hid hkp
      have HG := Lib.hid hg
      have HR := Lib.hid hr
      clear hx a1 a2 a3 n1 n2 n3 n4 n5 n6 n7 n8 cb hf hkp hg hr hl
      go_wp2_with fail
      refine hrun.out.mono ?_
      clear hrun
      rintro e w1 ⟨rfl, g1, cap1, hl1, hk1, hg1⟩
      have hr1' : w1.heap[w.heap.size]? = some (.cells #[.int .i64 0, .string ⟨#[]⟩, .int .i64 0] 24 (0, 0)) := (hk1.block _ (blk_lt HR.out) (by omega)).trans HR.out
      have hr2' := blk_alloc hr1' (.cells #[.int .i64 3, .string tOut, .int .i64 ((k : Int) + wi v 99)] 24)
      have c0 := blk_cell hr2' 0
      have c1 := blk_cell hr2' 1
      have c2 := blk_cell hr2' 2
      have f0 := blk_frozen hr2' 0
      have f1 := blk_frozen hr2' 1
      have f2 := blk_frozen hr2' 2
      have hfin : Hid (∀ x y z : Value, Logged L B g0 (2 * (k + 1)) (dbl (k + 1)) w ((((w1.alloc (.cells #[.int .i64 3, .string tOut, .int .i64 ((k : Int) + wi v 99)] 24)).setCell ⟨w.heap.size, 0, none⟩ x).setCell ⟨w.heap.size, 1, none⟩ y).setCell ⟨w.heap.size, 2, none⟩ z)) := by
        intro x y z
        have ka : Kp (fun i => i = w.heap.size) w1 (w1.alloc (.cells #[.int .i64 3, .string tOut, .int .i64 ((k : Int) + wi v 99)] 24)) := (Kp.refl _ _).alloc _
        have kk := ka.trans (kp_set3 (w1.alloc (.cells #[.int .i64 3, .string tOut, .int .i64 ((k : Int) + wi v 99)] 24)) w.heap.size x y z) (fun _ _ t => t)
        have hrl := blk_lt HR.out
        have hg := HG.out
        have hs := HK.out.size
        refine ⟨g1, cap1, ?_, (HK.out.trans hk1 (fun i hi t => by omega)).trans kk (fun i hi t => by omega), by omega⟩
        have := hl1.kp kk (by omega) (by omega)
        simpa [dbl, Nat.mul_add] using this
      clear hl1 hk1 hg1 hr1' hr2' hr1 hr2
      go_wp2_with fail
      exact bodyPost_ret (v := .tuple #[.agg #[.int .i64 3, .string tOut, .int .i64 ((k : Int) + wi v 99)], .int .i64 (k : Int)]) (by simp [results, Try.results19, go_sem, c0, c1, c2]) rfl ⟨rfl, hfin.out _ _ _⟩

set_option maxHeartbeats 400000 in
theorem first_nil (w : World) : Calls Try.prog 19 #[.slice none 0 0] w fun e w' => e = .returned (.tuple #[.agg #[.int .i64 0, .string ⟨#[]⟩, .int .i64 0], .int .i64 (-1)]) ∧ Below w.heap.size w w' := by
  go_enter Try.func19, Try.ntmps19
  go_wp2_with fail
  go_loop [10] (fun i => i = .int .i64 0) (fun _ => 0)
  case atStart => rfl
  case round =>
    subst hrel
    go_wp2_with fail
    exact bodyPost_ret (v := .tuple #[.agg #[.int .i64 0, .string ⟨#[]⟩, .int .i64 0], .int .i64 (-1)]) (by simp [results, Try.results19, go_sem]) rfl ⟨rfl, (Below.refl _ _).alloc (Nat.le_refl _) _⟩
end Go.Proofs.Ytnbkgpkgfolakaa
