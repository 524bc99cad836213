/-
  porticokeep's Wood.Tree: a tree of numbers.
-/
import Derived.Test.YtolklphenllhpaaWds
import Derived.Test.YtolklphenllhpaaGro
namespace Go.Proofs.Ytolklphenllhpaa
open Go.RowKit Go.PlainAid
set_option maxRecDepth 100000

structure KB (z : Nat) (A0 A1 A2 A3 : Option Addr) (n0 n1 n2 n3 c0 c1 c2 c3 : Nat) (f0 f1 f2 f3 : Nat → Int) (w : World) : Prop where
  x0 : w.heap[z]? = some (.cells #[.slice A0 n0 c0, .slice A1 n1 c1, .slice A2 n2 c2, .slice A3 n3 c3] 34 (0, 0))
  x1 : w.heap[z + 1]? = some (.cells #[.string ⟨#[]⟩, .string ⟨#[]⟩, .string ⟨#[]⟩, .slice none 0 0, .slice none 0 0] 27 (0, 0))
  x2 : w.heap[z + 2]? = some (.cells #[.string ⟨#[97]⟩, .string ⟨#[98]⟩, .string ⟨#[108, 105]⟩, .string ⟨#[111, 117, 116, 108, 101, 116]⟩] 9 (0, 0))
  x3 : w.heap[z + 3]? = some (.cells (wordsL.map Value.string).toArray 9 (0, 0))
  i0 : Ia w A0 n0 f0
  i1 : Ia w A1 n1 f1
  i2 : Ia w A2 n2 f2
  i3 : Ia w A3 n3 f3
theorem KB.call {z : Nat} {A0 A1 A2 A3 : Option Addr} {n0 n1 n2 n3 c0 c1 c2 c3 : Nat} {f0 f1 f2 f3 : Nat → Int} {w w' : World} (h : KB z A0 A1 A2 A3 n0 n1 n2 n3 c0 c1 c2 c3 f0 f1 f2 f3 w) (hb : Below w.heap.size w w') : KB z A0 A1 A2 A3 n0 n1 n2 n3 c0 c1 c2 c3 f0 f1 f2 f3 w' :=
  ⟨blk_call h.x0 hb, blk_call h.x1 hb, blk_call h.x2 hb, blk_call h.x3 hb, h.i0.call hb, h.i1.call hb, h.i2.call hb, h.i3.call hb⟩

def divN : Nde × Value := (⟨⟨#[100, 105, 118]⟩, ⟨#[]⟩, ⟨#[]⟩, []⟩, .slice none 0 0)
theorem wdp_0 : WdP [divN.1] [-1] (fun _ => 1) := by
  have e : ∀ i, i < ([divN.1] : List Nde).length → i = 0 := fun i hi => by simp at hi; omega
  refine ⟨rfl, by simp, fun i hi => ?_, fun a i hi h => ?_, fun i hi => ?_, rfl, fun _ _ => by omega, fun i hi => ?_, fun a i hi h => ?_, by decide⟩
  · rw [e i hi]; decide
  · rw [e i hi] at h
    have h : (-1 : Int) = (a : Int) := h
    omega
  · rw [e i hi]; exact .step (by decide) (.out (by decide))
  · rw [e i hi]; exact Or.inr ⟨by decide, by decide, by decide, by decide, by decide, Or.inl rfl⟩
  · rw [e i hi] at h
    have h : (-1 : Int) = (a : Int) := h
    omega
theorem owns_of {w : World} {g B : Nat} {e : TypeId} {size n : Nat} {cs : List Value} (hg : w.heap[g]? = some (.cells cs.toArray e (0, 0))) (hB : B ≤ g) (hl : cs.length = n * size) (hn : n ≤ 1000) : w.ownsRow B e size (.slice (some ⟨g, 0, none⟩) n n) n cs :=
  ⟨hl, Or.inr ⟨g, n, cs.toArray, rfl, hB, hg, Nat.le_refl _, by unfold maxLen; omega, by simpa using hl, by rw [← hl]; simp⟩⟩
theorem wdm_0 {w : World} {B : Nat} (h1 : w.heap[B]? = some (.cells #[.string ⟨#[100, 105, 118]⟩, .string ⟨#[]⟩, .string ⟨#[]⟩, .slice none 0 0, .slice none 0 0] 27 (0, 0))) (h2 : w.heap[B + 1]? = some (.cells #[.int .i64 (-1)] 3 (0, 0))) :
    WdM B w (.slice (some ⟨B, 0, none⟩) 1 1) (.slice (some ⟨B + 1, 0, none⟩) 1 1) [divN] [-1] :=
  { o5 := owns_of h1 (Nat.le_refl _) rfl (by omega), o6 := owns_of (cs := [.int .i64 (-1)]) h2 (by omega) rfl (by omega),
    at_ := fun r hr => by
      rw [List.mem_singleton] at hr
      subst hr
      exact ⟨(at_nil (fun _ => True) w).1, fun ad n c e => (by cases e), by decide⟩
    ap := fun g h1 h2 => by
      have e1 := Option.some.inj h1
      have e2 := Option.some.inj h2
      have e1 : B = g := e1
      have e2 : B + 1 = g := e2
      omega }
theorem wrd_at (r : Nat) (h : r ≤ 11) : ∃ x : ByteArray, wordsL[r]? = some x ∧ (wordsL.map Value.string).toArray[r]? = some (.string x) ∧ x.size ≤ 4 := by
  have hl : wordsL.length = 12 := rfl
  refine ⟨wordsL[r]'(by omega), List.getElem?_eq_getElem _, ?_, ?_⟩
  · rw [List.getElem?_toArray, List.getElem?_map, List.getElem?_eq_getElem (by omega)]; rfl
  have : ∀ x ∈ wordsL, x.size ≤ 4 := by decide
  exact this _ (List.getElem_mem _)

theorem one_text (w : World) (x : Int) : (convert 42 9 (.slice (some ⟨w.heap.size, 0, none⟩) 1 1)).run Try.prog (w.alloc (.cells #[.int .u8 x] 5 (0, 0))) = .ok (.string (st [x])) (w.alloc (.cells #[.int .u8 x] 5 (0, 0))) := by
  refine run_convert_bytes_arg _ 42 5 Try.underlying42 Try.underlying5 w.heap.size 0 1 1 [x] rfl ?_ 9 Try.underlying9
  intro i hi
  obtain rfl : i = 0 := by simp at hi; omega
  rw [blk_cell (blk_new w _)]
  rfl
/-- a node's own variable in block T: what it holds -/
structure BoxT (wr : World) (T : Nat) (x : Nde) (av : Value) (w : World) : Prop where
  tb : w.heap[T]? = some (.cells #[.string x.tag, .string x.key, .string x.text, av, .slice none 0 0] 27 (0, 0))
  no : NdO x
  ps : Ps w av x.attrs
  ap : ∀ ad n c, av = .slice (some ad) n c → wr.heap.size ≤ ad.block ∧ ad.block < w.heap.size
  lo : Below wr.heap.size wr w
theorem BoxT.call {wr : World} {T : Nat} {x : Nde} {av : Value} {w w' : World} (h : BoxT wr T x av w) (hb : Below w.heap.size w w') : BoxT wr T x av w' :=
  ⟨blk_call h.tb hb, h.no, h.ps.call hb, fun ad n c e => ⟨(h.ap ad n c e).1, Nat.lt_of_lt_of_le (h.ap ad n c e).2 hb.size⟩, h.lo.trans (hb.mono h.lo.size)⟩
theorem ps_nil (w : World) : Ps w (.slice none 0 0) [] := (at_nil (fun _ => True) w).1
theorem boxt_0 (wr : World) (x : Tx) (hx : x.size ≤ 4) : BoxT wr wr.heap.size ⟨⟨#[]⟩, ⟨#[]⟩, x, []⟩ (.slice none 0 0) (wr.alloc (.cells #[.string ⟨#[]⟩, .string ⟨#[]⟩, .string x, .slice none 0 0, .slice none 0 0] 27 (0, 0))) :=
  ⟨blk_new _ _, Or.inl ⟨rfl, rfl, rfl, hx⟩, ps_nil _, fun ad n c e => (by cases e), (Below.refl _ wr).alloc (Nat.le_refl _) _⟩
theorem boxt_set {wr w : World} {T : Nat} {x : Nde} {av : Value} (h : BoxT wr T x av w) (hT : wr.heap.size ≤ T) (g : Tx) (hg : NdO ⟨g, ⟨#[]⟩, ⟨#[]⟩, []⟩) :
    BoxT wr T ⟨g, ⟨#[]⟩, ⟨#[]⟩, []⟩ (.slice none 0 0) (((((w.setCell ⟨T, 0, none⟩ (.string g)).setCell ⟨T, 1, none⟩ (.string ⟨#[]⟩)).setCell ⟨T, 2, none⟩ (.string ⟨#[]⟩)).setCell ⟨T, 3, none⟩ (.slice none 0 0)).setCell ⟨T, 4, none⟩ (.slice none 0 0)) := by
  obtain ⟨h1, h2⟩ := set5 w T 27 (.string g) (.string ⟨#[]⟩) (.string ⟨#[]⟩) (.slice none 0 0) (.slice none 0 0) h.tb rfl
  exact ⟨h1, hg, ps_nil _, fun ad n c e => (by cases e), h.lo.trans (h2.below h.lo.size (fun k hk e => by omega))⟩
theorem boxt_key {wr w : World} {T : Nat} {g : Tx} (h : BoxT wr T ⟨g, ⟨#[]⟩, ⟨#[]⟩, []⟩ (.slice none 0 0) w) (hT : wr.heap.size ≤ T) (hg : g.size ≠ 0) (k : Tx) (hk : k.size ≤ 1) (o : Obj) :
    BoxT wr T ⟨g, k, ⟨#[]⟩, []⟩ (.slice none 0 0) ((w.alloc o).setCell ⟨T, 1, none⟩ (.string k)) := by
  have h1 := blk_setCell (blk_alloc h.tb o) 1 (.string k)
  have h2 := ((Kp.refl (fun i => i = T) w).alloc o).setCell (p := ⟨T, 1, none⟩) (fun _ => rfl) (.string k)
  refine ⟨h1, ?_, ps_nil _, fun ad n c e => (by cases e), h.lo.trans (h2.below h.lo.size (fun k hk e => by omega))⟩
  rcases h.no with ⟨a, _⟩ | ⟨a, b, c, d, e, f⟩
  · exact absurd a hg
  · exact Or.inr ⟨a, b, c, hk, e, f⟩
theorem boxt_attr {wr w : World} {T : Nat} {g k : Tx} (h : BoxT wr T ⟨g, k, ⟨#[]⟩, []⟩ (.slice none 0 0) w) (hT : wr.heap.size ≤ T) (hg : g.size ≠ 0) (y : Tx) (hy : y.size ≤ 4) :
    BoxT wr T ⟨g, k, ⟨#[]⟩, [(tX, y)]⟩ (.slice (some ⟨w.heap.size, 0, none⟩) 1 1) ((w.alloc (.cells #[.string tX, .string y] 23 (0, 0))).setCell ⟨T, 3, none⟩ (.slice (some ⟨w.heap.size, 0, none⟩) 1 1)) := by
  have hTl := blk_lt h.tb
  have h1 := blk_setCell (blk_alloc h.tb (.cells #[.string tX, .string y] 23 (0, 0))) 3 (.slice (some ⟨w.heap.size, 0, none⟩) 1 1)
  have h2 := ((Kp.refl (fun i => i = T) w).alloc (.cells #[.string tX, .string y] 23 (0, 0))).setCell (p := ⟨T, 3, none⟩) (fun _ => rfl) (.slice (some ⟨w.heap.size, 0, none⟩) 1 1)
  have h3 := blk_setCell_other (blk_new w (.cells #[.string tX, .string y] 23 (0, 0))) (p := ⟨T, 3, none⟩) (show w.heap.size ≠ T by omega) (.slice (some ⟨w.heap.size, 0, none⟩) 1 1)
  refine ⟨h1, ?_, (at_one (p := fun _ => True) 1 h3 trivial (Nat.le_refl _)).1, fun ad n c e => ?_, h.lo.trans (h2.below h.lo.size (fun k hk e => by omega))⟩
  · rcases h.no with ⟨a, _⟩ | ⟨a, b, c, d, e, f⟩
    · exact absurd a hg
    · exact Or.inr ⟨a, b, c, d, e, Or.inr ⟨y, rfl, hy⟩⟩
  · cases e
    refine ⟨h.lo.size, ?_⟩
    simp [World.setCell]
theorem NdO.len {x : Nde} (h : NdO x) : x.attrs.length ≤ 1 := by
  rcases h with ⟨_, _, c, _⟩ | ⟨_, _, _, _, _, e⟩
  · rw [c]; simp
  · rcases e with e | ⟨y, e, _⟩ <;> rw [e] <;> simp
theorem tag_at (c : Nat) (h : c < 4) : ∃ g : Tx, (#[.string ⟨#[97]⟩, .string ⟨#[98]⟩, .string ⟨#[108, 105]⟩, .string ⟨#[111, 117, 116, 108, 101, 116]⟩] : Array Value)[c]? = some (.string g) ∧ NdO ⟨g, ⟨#[]⟩, ⟨#[]⟩, []⟩ ∧ g.size ≠ 0 := by
  match c, h with
  | 0, _ => exact ⟨_, rfl, Or.inr ⟨by decide, by decide, by decide, by decide, by decide, Or.inl rfl⟩, by decide⟩
  | 1, _ => exact ⟨_, rfl, Or.inr ⟨by decide, by decide, by decide, by decide, by decide, Or.inl rfl⟩, by decide⟩
  | 2, _ => exact ⟨_, rfl, Or.inr ⟨by decide, by decide, by decide, by decide, by decide, Or.inl rfl⟩, by decide⟩
  | 3, _ => exact ⟨_, rfl, Or.inr ⟨by decide, by decide, by decide, by decide, by decide, Or.inl rfl⟩, by decide⟩

set_option maxHeartbeats 12800000 in
theorem tree12 (A0 A1 A2 A3 : Option Addr) (n0 n1 n2 n3 c0 c1 c2 c3 : Nat) (f0 f1 f2 f3 : Nat → Int) (w : World) (hi0 : Ia w A0 n0 f0) (hi1 : Ia w A1 n1 f1) (hi2 : Ia w A2 n2 f2) (hi3 : Ia w A3 n3 f3) :
    Calls Try.prog 12 #[.agg #[.slice A0 n0 c0, .slice A1 n1 c1, .slice A2 n2 c2, .slice A3 n3 c3]] w fun e w' => ∃ v t, e = .returned v ∧ TrW (fun k => w.heap.size ≤ k) w' v t ∧ WoT t ∧ Below w.heap.size w w' := by
  have I0 := Lib.hid hi0
  have I1 := Lib.hid hi1
  have I2 := Lib.hid hi2
  have I3 := Lib.hid hi3
  clear hi0 hi1 hi2 hi3
  have hb3 := (((Below.refl _ w).alloc (Nat.le_refl _) (.cells #[.slice A0 n0 c0, .slice A1 n1 c1, .slice A2 n2 c2, .slice A3 n3 c3] 34 (0, 0))).alloc (by simp) (.cells #[.string ⟨#[]⟩, .string ⟨#[]⟩, .string ⟨#[]⟩, .slice none 0 0, .slice none 0 0] 27 (0, 0))).alloc (by simp; omega) (.cells #[.string ⟨#[97]⟩, .string ⟨#[98]⟩, .string ⟨#[108, 105]⟩, .string ⟨#[111, 117, 116, 108, 101, 116]⟩] 9 (0, 0))
  have B3 := Lib.hid hb3
  have X0 := Lib.hid (blk_alloc (blk_alloc (blk_new w (.cells #[.slice A0 n0 c0, .slice A1 n1 c1, .slice A2 n2 c2, .slice A3 n3 c3] 34 (0, 0))) (.cells #[.string ⟨#[]⟩, .string ⟨#[]⟩, .string ⟨#[]⟩, .slice none 0 0, .slice none 0 0] 27 (0, 0))) (.cells #[.string ⟨#[97]⟩, .string ⟨#[98]⟩, .string ⟨#[108, 105]⟩, .string ⟨#[111, 117, 116, 108, 101, 116]⟩] 9 (0, 0)))
  have X1 := Lib.hid (blk_alloc (blk_new1 w (.cells #[.slice A0 n0 c0, .slice A1 n1 c1, .slice A2 n2 c2, .slice A3 n3 c3] 34 (0, 0)) (.cells #[.string ⟨#[]⟩, .string ⟨#[]⟩, .string ⟨#[]⟩, .slice none 0 0, .slice none 0 0] 27 (0, 0))) (.cells #[.string ⟨#[97]⟩, .string ⟨#[98]⟩, .string ⟨#[108, 105]⟩, .string ⟨#[111, 117, 116, 108, 101, 116]⟩] 9 (0, 0)))
  have hx2 := blk_new1 (w.alloc (.cells #[.slice A0 n0 c0, .slice A1 n1 c1, .slice A2 n2 c2, .slice A3 n3 c3] 34 (0, 0))) (.cells #[.string ⟨#[]⟩, .string ⟨#[]⟩, .string ⟨#[]⟩, .slice none 0 0, .slice none 0 0] 27 (0, 0)) (.cells #[.string ⟨#[97]⟩, .string ⟨#[98]⟩, .string ⟨#[108, 105]⟩, .string ⟨#[111, 117, 116, 108, 101, 116]⟩] 9 (0, 0))
  rw [show (w.alloc (.cells #[.slice A0 n0 c0, .slice A1 n1 c1, .slice A2 n2 c2, .slice A3 n3 c3] 34 (0, 0))).heap.size = w.heap.size + 1 by simp] at hx2
  have X2 := Lib.hid hx2
  clear hb3 hx2
  go_enter Try.func12, Try.ntmps12
  go_upto_region 2 with fail
  generalize hw3 : ((w.alloc _).alloc _).alloc _ = w3 at *
  have Z3 : w3.heap.size = w.heap.size + 3 := by rw [← hw3]; simp
  clear hw3
  go_wp2_with fail
  refine (words20 w3).mono ?_
  rintro e w4 ⟨rfl, hw4⟩
  have hx3 := blk_new w3 (.cells (wordsL.map Value.string).toArray 9 (0, 0))
  rw [Z3, ← hw4] at hx3
  have B34 := (Below.refl _ w3).alloc (Nat.le_refl _) (.cells (wordsL.map Value.string).toArray 9 (0, 0))
  rw [← hw4] at B34
  have hb4 := B3.out.trans (B34.mono B3.out.size)
  have K4 := Lib.hid (show KB w.heap.size A0 A1 A2 A3 n0 n1 n2 n3 c0 c1 c2 c3 f0 f1 f2 f3 w4 from ⟨blk_call X0.out B34, blk_call X1.out B34, blk_call X2.out B34, hx3, I0.out.call hb4, I1.out.call hb4, I2.out.call hb4, I3.out.call hb4⟩)
  have Z4 : w4.heap.size = w.heap.size + 4 := by rw [hw4]; simp [Z3]
  have B4 := Lib.hid hb4
  rw [Z3]
  clear hw4 hx3 B34 hb4 I0 I1 I2 I3 X0 X1 X2 B3 Z3
  go_upto_region 5 with fail
  have M0 := Lib.hid (wdm_0 (blk_alloc (blk_new w4 (.cells #[.string ⟨#[100, 105, 118]⟩, .string ⟨#[]⟩, .string ⟨#[]⟩, .slice none 0 0, .slice none 0 0] 27 (0, 0))) (.cells #[.int .i64 (-1)] 3 (0, 0))) (blk_new1 w4 (.cells #[.string ⟨#[100, 105, 118]⟩, .string ⟨#[]⟩, .string ⟨#[]⟩, .slice none 0 0, .slice none 0 0] 27 (0, 0)) (.cells #[.int .i64 (-1)] 3 (0, 0))))
  have B0 := Lib.hid (((Below.refl _ w4).alloc (Nat.le_refl _) (.cells #[.string ⟨#[100, 105, 118]⟩, .string ⟨#[]⟩, .string ⟨#[]⟩, .slice none 0 0, .slice none 0 0] 27 (0, 0))).alloc (by simp) (.cells #[.int .i64 (-1)] 3 (0, 0)))
  generalize hw5 : (w4.alloc _).alloc _ = w5 at *
  clear hw5
  go_wp2_with fail
  go_loopw [5, 6, 7] (fun p5 p6 p7 wr => ∃ (i : Nat) (A5 A6 : Option Addr) (c5 c6 : Nat) (rs : List (Nde × Value)) (l : List Int) (D : Nat → Nat), i ≤ 12 ∧ rs.length = i + 1 ∧ p5 = .slice A5 (i + 1) c5 ∧ p6 = .slice A6 (i + 1) c6 ∧ p7 = .int .i64 i ∧ Hid (WdP (rN rs) l D) ∧ Hid (WdM w4.heap.size wr (.slice A5 (i + 1) c5) (.slice A6 (i + 1) c6) rs l) ∧ Hid (Below w4.heap.size w4 wr)) (fun _ _ p _ => 13 - (intOf p).toNat)
  case atStart =>
    rw [Z4] at M0
    exact ⟨0, _, _, 1, 1, [divN], [-1], _, Nat.zero_le _, rfl, rfl, rfl, rfl, wdp_0, by rw [Z4]; exact M0.out, B0.out⟩
  case round =>
    obtain ⟨i, A5, A6, c5, c6, rs, l, D, hi12, hrl, rfl, rfl, rfl, WP, WM, BW⟩ := hrel
    clear M0 B0
    have HZ := Lib.hid Z4
    clear Z4
    have hK := K4.out.call BW.out
    have K := Lib.hid hK
    have b0 := blk_cell hK.x0 0
    simp at b0
    by_cases hi : i < n0 ∧ i < 12
    · obtain ⟨hia, hib⟩ := hi
      have d0 : (i : Int) < (n0 : Int) := by omega
      have d1 : decide ((i : Int) < (n0 : Int)) = true := decide_eq_true d0
      have d2 : decide ((i : Int) < 12) = true := decide_eq_true (by omega)
      obtain ⟨bU, oU, rfl, hu⟩ := hK.i0.2 i hia
      clear hK
      go_wp2_with fail
      refine (within17 (f0 i) i wr (by omega)).mono ?_
      rintro e w' ⟨p, hp, rfl, hw⟩
      obtain rfl : wr = w' := hw.symm
      have d3 : (p : Int) < (i : Int) + 1 := by omega
      generalize hg : (ndF (rN rs) p).tag = tg
      have TG := Lib.hid hg
      clear hg
      go_upto_region 9 with fail
      clear hu
      go_cut [42] (fun p42 wz => p42 = .bool tg.toList.isEmpty ∧ wz = wr)
      case first =>
        obtain ⟨bN, oN, rfl, hc⟩ := WM.out.tagc (p := p) (by omega)
        rw [TG.out] at hc
        go_wp2_with fail
        go_meet
        exact ⟨rfl, rfl⟩
      case rest =>
      obtain ⟨rfl, hw⟩ := hcut
      obtain rfl : wr = wc := hw.symm
      go_upto_if 42 with fail
      go_cut [8] (fun p8 wz => ∃ p' : Nat, p8 = .int .i64 p' ∧ p' ≤ i ∧ Hid ((ndF (rN rs) p').tag.size ≠ 0) ∧ wz = wr)
      case first =>
        by_cases et : tg.size = 0
        · have q0 : tg.toList.isEmpty = true := by rw [size_emp]; exact decide_eq_true et
          rw [q0]
          go_wp2_with fail
          go_meet
          exact ⟨0, rfl, Nat.zero_le _, WP.out.t0, rfl⟩
        · have q0 : tg.toList.isEmpty = false := by rw [size_emp]; exact decide_eq_false et
          rw [q0]
          go_wp2_with fail
          go_meet
          exact ⟨p, rfl, hp, by rw [TG.out]; exact et, rfl⟩
      case rest =>
        obtain ⟨p', rfl, hp', TP, hw⟩ := hcut
        obtain rfl : wr = wc := hw.symm
        clear hp d3 TG
        go_upto_region 11 with fail
        have b0 := blk_cell K.out.x0 3
        simp at b0
        go_wp2_with fail
        refine (pick21 A3 n3 c3 f3 i wr K.out.i3).mono ?_
        rintro e w' ⟨x9, rfl, hw⟩
        obtain rfl : wr = w' := hw.symm
        go_wp2_with fail
        refine (within17 x9 11 wr (by omega)).mono ?_
        rintro e w' ⟨r9, hr9, rfl, hw⟩
        obtain rfl : wr = w' := hw.symm
        obtain ⟨y9, _, hy9, hz9⟩ := wrd_at r9 hr9
        have b3 : wr.cell? ⟨w.heap.size + 3, r9, none⟩ = some (.string y9) := by rw [blk_cell K.out.x3]; exact hy9
        have d4 : (r9 : Int) < 12 := by omega
        clear hy9
        go_upto_region 12 with fail
        have ba1 := Lib.hid (boxt_0 wr y9 hz9)
        generalize wr.alloc _ = wa at *
        have hka := K.out.call ba1.out.lo
        have KA := Lib.hid hka
        have b0 := blk_cell hka.x0 1
        simp at b0
        clear hka b3 d4 hz9
        go_wp2_with fail
        refine (pick21 A1 n1 c1 f1 i wa KA.out.i1).mono ?_
        rintro e w' ⟨x8, rfl, hw⟩
        obtain rfl : wa = w' := hw.symm
        go_wp2_with fail
        refine (within17 x8 5 wa (by omega)).mono ?_
        rintro e w' ⟨c, hc5, rfl, hw⟩
        obtain rfl : wa = w' := hw.symm
        go_upto_if 61 with fail
        go_cut [] (fun wz => ∃ (x : Nde) (av : Value), Hid (BoxT wr wr.heap.size x av wz))
        case first =>
          by_cases hc4 : c < 4
          · have d5 : decide ((c : Int) < 4) = true := decide_eq_true (by omega)
            have d6 : (c : Int) < 4 := by omega
            obtain ⟨g, hg, hno, hgz⟩ := tag_at c hc4
            have b2 : wa.cell? ⟨w.heap.size + 2, c, none⟩ = some (.string g) := by rw [blk_cell KA.out.x2]; exact hg
            have f0 := blk_frozen ba1.out.tb 0
            have f1 := blk_frozen ba1.out.tb 1
            have f2 := blk_frozen ba1.out.tb 2
            have f3 := blk_frozen ba1.out.tb 3
            have f4 := blk_frozen ba1.out.tb 4
            have b4 := blk_cell ba1.out.tb 0
            have b5 := blk_cell ba1.out.tb 1
            have b6 := blk_cell ba1.out.tb 2
            have b7 := blk_cell ba1.out.tb 3
            have b8 := blk_cell ba1.out.tb 4
            simp at b4 b5 b6 b7 b8
            go_upto_region 15 with fail
            have bt1 := Lib.hid (boxt_set ba1.out (Nat.le_refl _) g hno)
            clear f0 f1 f2 f3 f4 b0 b2 b4 b5 b6 b7 b8 ba1 hg KA
            generalize ((((wa.setCell _ _).setCell _ _).setCell _ _).setCell _ _).setCell _ _ = wb at *
            have hkb := K.out.call bt1.out.lo
            have KB1 := Lib.hid hkb
            have b0 := blk_cell hkb.x0 2
            simp at b0
            clear hkb
            go_wp2_with fail
            refine (pick21 A2 n2 c2 f2 i wb KB1.out.i2).mono ?_
            rintro e w' ⟨x7, rfl, hw⟩
            obtain rfl : wb = w' := hw.symm
            go_wp2_with fail
            refine (within17 x7 6 wb (by omega)).mono ?_
            rintro e w' ⟨m, hm6, rfl, hw⟩
            obtain rfl : wb = w' := hw.symm
            clear b0 KB1
            go_upto_if 73 with fail
            go_cut [] (fun wz => ∃ k : Tx, Hid (BoxT wr wr.heap.size ⟨g, k, ⟨#[]⟩, []⟩ (.slice none 0 0) wz))
            case first =>
              have hta := blk_alloc bt1.out.tb (.cells #[.int .u8 (48 + (m : Int))] 5 (0, 0))
              have ff1 := blk_frozen hta 1
              have b4 := blk_cell hta 1
              simp only [List.getElem?_toArray, List.getElem?_cons_succ, List.getElem?_cons_zero] at b4
              clear hta
              by_cases hm4 : m < 4
              · have d7 : decide ((m : Int) < 4) = true := decide_eq_true (by omega)
                have qc := one_text wb (48 + (m : Int))
                have hk1 : (st [48 + (m : Int)]).size ≤ 1 := Nat.le_refl 1
                go_wp2_with fail
                go_meet
                exact ⟨_, boxt_key bt1.out (Nat.le_refl _) hgz _ hk1 _⟩
              · have d7 : decide ((m : Int) < 4) = false := decide_eq_false (by omega)
                go_wp2_with fail
                go_meet
                exact ⟨_, bt1.out⟩
            case rest =>
              obtain ⟨k, BK⟩ := hcut
              clear bt1 wb
              have hkc := K.out.call BK.out.lo
              have KC := Lib.hid hkc
              have b0 := blk_cell hkc.x0 3
              simp at b0
              clear hkc
              go_wp2_with fail
              refine (pick21 A3 n3 c3 f3 i wc KC.out.i3).mono ?_
              rintro e w' ⟨x6, rfl, hw⟩
              obtain rfl : wc = w' := hw.symm
              go_upto_if 85 with fail
              clear b0
              cases hb : (bits BinOp.and IntKind.i64 x6 1 == 1)
              · go_wp2_with fail
                go_meet
                exact ⟨_, _, BK.out⟩
              · clear hb
                have b0 := blk_cell KC.out.x0 3
                simp at b0
                go_wp2_with fail
                refine (pick21s A3 n3 c3 f3 i wc KC.out.i3).mono ?_
                rintro e w' ⟨x5, rfl, hw⟩
                obtain rfl : wc = w' := hw.symm
                go_wp2_with fail
                refine (within17 x5 11 wc (by omega)).mono ?_
                rintro e w' ⟨r5, hr5, rfl, hw⟩
                obtain rfl : wc = w' := hw.symm
                obtain ⟨y5, _, hy5, hz5⟩ := wrd_at r5 hr5
                have b3 : wc.cell? ⟨w.heap.size + 3, r5, none⟩ = some (.string y5) := by rw [blk_cell KC.out.x3]; exact hy5
                have d8 : (r5 : Int) < 12 := by omega
                clear hy5
                have hta := blk_alloc BK.out.tb (.cells #[.string tX, .string y5] 23 (0, 0))
                have ff3 := blk_frozen hta 3
                have b4 := blk_cell hta 3
                simp only [List.getElem?_toArray, List.getElem?_cons_succ, List.getElem?_cons_zero] at b4
                change World.frozen? (wc.alloc (.cells #[.string ⟨#[120]⟩, .string y5] 23 (0, 0))) _ = _ at ff3
                change World.cell? (wc.alloc (.cells #[.string ⟨#[120]⟩, .string y5] 23 (0, 0))) _ = _ at b4
                clear hta
                go_wp2_with fail
                go_meet
                exact ⟨_, _, boxt_attr BK.out (Nat.le_refl _) hgz _ hz5⟩
          · have d5 : decide ((c : Int) < 4) = false := decide_eq_false (by omega)
            go_wp2_with fail
            go_meet
            exact ⟨_, _, ba1.out⟩
        case rest =>
          obtain ⟨⟨tg, ky, tx, at_⟩, av, BX⟩ := hcut
          obtain ⟨Av, cv, rfl, -⟩ := BX.out.ps
          clear ba1 KA b0 wa
          replace BX : Hid (BoxT wr wr.heap.size ⟨tg, ky, tx, at_⟩ (.slice Av at_.length cv) wc) := BX
          have NX : Hid (NdO ⟨tg, ky, tx, at_⟩) := BX.out.no
          have hmw := WM.out.call BX.out.lo
          have DP := Lib.hid (WP.out.dp p' (by rw [List.length_map]; omega))
          have D7 := Lib.hid (WP.out.d7 p' (by rw [List.length_map]; omega))
          have MW := Lib.hid hmw
          clear hmw
          go_wp2_with fail
          refine (deep22 _ l p' (D p') wc MW.out.nr.2 DP.out (by have := D7.out; omega)).mono ?_
          rintro e w9 ⟨rfl, hb9⟩
          have BX9 := Lib.hid (show BoxT wr wr.heap.size ⟨tg, ky, tx, at_⟩ (.slice Av at_.length cv) w9 from BX.out.call hb9)
          have M9 := Lib.hid (MW.out.call hb9)
          clear BX MW hb9 wc
          generalize hd : D p' = d at *
          have HD := Lib.hid hd
          clear hd
          go_upto_if 104 with fail
          go_cut [8] (fun p8 wz => ∃ p : Nat, p8 = .int .i64 p ∧ p ≤ i ∧ Hid ((ndF (rN rs) p).tag.size ≠ 0) ∧ Hid (D p ≤ 6) ∧ wz = w9)
          case first =>
            by_cases h6 : 6 < d
            · have q6 : decide ((6 : Int) < (d : Int)) = true := decide_eq_true (by omega)
              go_wp2_with fail
              go_meet
              exact ⟨0, rfl, Nat.zero_le _, WP.out.t0, by rw [Hid, WP.out.d0]; omega, rfl⟩
            · have q6 : decide ((6 : Int) < (d : Int)) = false := decide_eq_false (by omega)
              go_wp2_with fail
              go_meet
              exact ⟨p', rfl, hp', TP.out, by rw [Hid, HD.out]; omega, rfl⟩
          case rest =>
            obtain ⟨p, rfl, hp, TP2, D6, hw⟩ := hcut
            obtain rfl : w9 = wc := hw.symm
            clear HD D7 DP TP
            have hal := (Below.refl _ w9).alloc (Nat.le_refl _) (.cells #[.string tg, .string ky, .string tx, .slice Av at_.length cv, .slice none 0 0] 27 (0, 0))
            have MA := Lib.hid (M9.out.call hal)
            have BA := Lib.hid (BX9.out.call hal)
            have LA := Lib.hid (hal.size)
            have NB := Lib.hid (blk_new w9 (.cells #[.string tg, .string ky, .string tx, .slice Av at_.length cv, .slice none 0 0] 27 (0, 0)))
            have b4 := blk_cell BX9.out.tb 0
            have b5 := blk_cell BX9.out.tb 1
            have b6 := blk_cell BX9.out.tb 2
            have b7 := blk_cell BX9.out.tb 3
            have b8 := blk_cell BX9.out.tb 4
            simp at b4 b5 b6 b7 b8
            have ATW := Lib.hid (show Atw w4.heap.size (w9.alloc (.cells #[.string tg, .string ky, .string tx, .slice Av at_.length cv, .slice none 0 0] 27 (0, 0))) (.slice A5 (i + 1) c5) (.slice A6 (i + 1) c6) (.slice Av at_.length cv) at_ from ⟨BA.out.ps, fun ad n c e => by
              have h1 := BA.out.ap ad n c e
              have h2 := BW.out.size
              exact ⟨by omega, h1.2, fun e2 => by have := (WM.out.o5.lt _ e2).2; omega, fun e2 => by have := (WM.out.o6.lt _ e2).2; omega⟩, NX.out.len⟩)
            have BW0 := Lib.hid (BW.out.trans ((BA.out.lo).mono BW.out.size))
            clear hal
            go_wp2_with (at_builtin; go_loud (refine wpList_app elT _ rfl _ _ rfl w4.heap.size (.slice A5 (i + 1) c5) rs.length (rs.map ndC).flatten rfl MA.out.o5 BW0.out.size ⟨w9.heap.size, 0, none⟩ 1 1 (ndC (⟨tg, ky, tx, at_⟩, .slice Av at_.length cv)) rfl rfl (World.news_of_block NB.out) (by intro u hu; simp [ndC] at hu; rcases hu with rfl | rfl | rfl | rfl | rfl <;> rfl) (by omega) (by omega) ?_))
            intro v7 w7 h7 hg7 hv7
            have M7 := Lib.hid (MA.out.push5 (x := (⟨tg, ky, tx, at_⟩, .slice Av at_.length cv)) ATW.out (by rw [hrl]; exact h7) hg7 (by simpa using hv7))
            have B7 := Lib.hid (BW0.out.grown hg7 BW0.out.size (fun k hk => (MA.out.o5.lt k hk).1))
            obtain ⟨A7, c7, rfl, -⟩ := owns_sh h7
            clear h7 hg7 hv7
            have h8al := (Below.refl _ w7).alloc (Nat.le_refl _) (.cells #[.int .i64 (p : Int)] 3 (0, 0))
            have M8 := Lib.hid (M7.out.call h8al)
            have B8 := Lib.hid (B7.out.trans (h8al.mono B7.out.size))
            have NC := Lib.hid (blk_new w7 (.cells #[.int .i64 (p : Int)] 3 (0, 0)))
            clear h8al
            have hll := WP.out.ln
            rw [List.length_map, hrl] at hll
            go_wp2_with (at_builtin; go_loud (refine wpList_app elI _ rfl _ _ rfl w4.heap.size (.slice A6 (i + 1) c6) l.length (niC l) rfl M8.out.o6 B8.out.size ⟨w7.heap.size, 0, none⟩ 1 1 [.int .i64 (p : Int)] rfl rfl (World.news_of_block NC.out) (by intro u hu; simp at hu; subst hu; rfl) (by omega) (by omega) ?_))
            intro v9 wz h9 hg9 hv9
            have MZ := Lib.hid (M8.out.push6 (x := (p : Int)) (by rw [hll]; exact h9) hg9 (by simpa using hv9))
            have BZ := Lib.hid (B8.out.grown hg9 B8.out.size (fun k hk => (M8.out.o6.lt k hk).1))
            obtain ⟨A9, c9, rfl, -⟩ := owns_sh h9
            clear h9 hg9 hv9
            have hw2 := WP.out.push (p := p) (x := ⟨tg, ky, tx, at_⟩) (by rw [List.length_map]; omega) TP2.out D6.out NX.out
            rw [show rN rs ++ [(⟨tg, ky, tx, at_⟩ : Nde)] = rN (rs ++ [((⟨tg, ky, tx, at_⟩ : Nde), (.slice Av at_.length cv : Value))]) by simp] at hw2
            have WP2 := Lib.hid hw2
            clear hw2
            go_wp2_with fail
            go_roundw
            case rel =>
              exact ⟨i + 1, A7, A9, c7, c9, rs ++ [(⟨tg, ky, tx, at_⟩, .slice Av at_.length cv)], l ++ [(p : Int)], fun i => if i = (rN rs).length then D p + 1 else D i, by omega, by rw [List.length_append, hrl]; rfl, rfl, rfl, by go_num, WP2, MZ, BZ⟩
            case measure => simp [intOf]; omega
    · have HX : decide (i < n0) = false ∨ (i = 12 ∧ (12 : Int) < (n0 : Int)) := by
        by_cases h : i < n0
        · exact Or.inr (by omega)
        · exact Or.inl (decide_eq_false h)
      clear hi hK
      rcases HX with d1 | ⟨rfl, d1⟩
      all_goals
        go_wp2_with fail
        refine (grow23 (fun k => w4.heap.size ≤ k ∧ k < wr.heap.size) (rN rs) l WP.out.ln WP.out.un (by rw [List.length_map]; omega) (rN rs).length _ _ 0 wr (by omega) WP.out.pos WM.out.nr.1 WM.out.nr.2 (fun k hk => hk.2)).mono ?_
        rintro e w9 ⟨v9, rfl, TW, hb9⟩
        obtain ⟨g6, k6, z6, at6, kd6, B6, n6, a6, K6, m6, et, rfl⟩ := TW.parts
        have X9 := Lib.hid (blk_call K.out.x1 hb9)
        have T9 := Lib.hid TW
        have B9 := Lib.hid hb9
        clear TW hb9 et K b0
        have y0 := blk_cell X9.out 0
        have y1 := blk_cell X9.out 1
        have y2 := blk_cell X9.out 2
        have y3 := blk_cell X9.out 3
        have y4 := blk_cell X9.out 4
        have y5 := blk_frozen X9.out 0
        have y6 := blk_frozen X9.out 1
        have y7 := blk_frozen X9.out 2
        have y8 := blk_frozen X9.out 3
        have y9 := blk_frozen X9.out 4
        simp at y0 y1 y2 y3 y4
        go_wp2_with fail
        have hz := HZ.out
        have hzw := BW.out.size
        have hz9 := B9.out.size
        obtain ⟨hT9, hk9⟩ := set5 w9 (w.heap.size + 1) 27 (.string g6) (.string k6) (.string z6) (.slice B6 n6 a6) (.slice K6 kd6.length m6) X9.out rfl
        have htr := ((T9.out.mono (q := fun k => w.heap.size ≤ k ∧ k ≠ w.heap.size + 1) (fun k hp _ => by rcases hp with h | h <;> omega)).frame (fun k hp hl => hk9.block k hl hp.2)).mono (q := fun k => w.heap.size ≤ k) (fun k hp _ => hp.1)
        exact tree_end (T := w.heap.size + 1) rfl rfl hT9 ⟨_, _, rfl, htr, WP.out.wot (by rw [List.length_map]; omega), (B4.out.trans ((BW.out.trans (B9.out.mono hzw)).mono B4.out.size)).trans (hk9.below (by omega) (fun k hk e => by omega))⟩
end Go.Proofs.Ytolklphenllhpaa
