/-
  porticolaw4.equal, url.Same, url.Get.
-/
import Derived.Test.YtcppccpglcolnaaEqual
import Derived.Test.YtcppccpglcolnaaParse
namespace Go.Proofs.Ytcppccpglcolnaa
open Go.RowKit Go.PlainAid

def eqB (p : List ByteArray) (q : List Pr) (p' : List ByteArray) (q' : List Pr) : Bool := decide (p = p') && decide (q = q')

set_option maxHeartbeats 1600000 in
theorem equal19 (v1 v2 u1 u2 : Value) (p p' : List ByteArray) (q q' : List Pr) (w : World) (h1 : Ss w v1 p) (h2 : Ps w v2 q) (k1 : Ss w u1 p') (k2 : Ps w u2 q') (hz : p.length ≤ 100000 ∧ q.length ≤ 100000) :
    Calls Try.prog 19 #[.agg #[v1, v2], .agg #[u1, u2]] w fun e w' => e = .returned (.bool (eqB p q p' q')) ∧ Below w.heap.size w w' := by
  have H1 := Lib.hid h1
  have H2 := Lib.hid h2
  have K1 := Lib.hid k1
  have K2 := Lib.hid k2
  obtain ⟨A1, n1, c1, rfl⟩ := h1.shape
  obtain ⟨A2, n2, c2, rfl⟩ := h2.shape
  obtain ⟨A3, n3, c3, rfl⟩ := k1.shape
  obtain ⟨A4, n4, c4, rfl⟩ := k2.shape
  clear h1 h2 k1 k2
  have HX := Lib.hid (blk_alloc (blk_new w (.cells #[.slice A1 n1 c1, .slice A2 n2 c2] 25 (0, 0))) (.cells #[.slice A3 n3 c3, .slice A4 n4 c4] 25 (0, 0)))
  have HY := Lib.hid (blk_new1 w (.cells #[.slice A1 n1 c1, .slice A2 n2 c2] 25 (0, 0)) (.cells #[.slice A3 n3 c3, .slice A4 n4 c4] 25 (0, 0)))
  have HB := Lib.hid (((Below.refl w.heap.size w).alloc (Nat.le_refl _) (.cells #[.slice A1 n1 c1, .slice A2 n2 c2] 25 (0, 0))).alloc (by simp) (.cells #[.slice A3 n3 c3, .slice A4 n4 c4] 25 (0, 0)))
  have e0 : eqB p q p' q' = (decide (p = p') && decide (q = q')) := rfl
  have E0 := Lib.hid e0
  clear e0
  by_cases hp : p = p'
  · have hd : decide (p = p') = true := decide_eq_true hp
    have HP := Lib.hid hp
    clear hp
    go_enter Try.func19, Try.ntmps19
    go_wp2_with fail
    generalize (w.alloc (.cells #[.slice A1 n1 c1, .slice A2 n2 c2] 25)).alloc (.cells #[.slice A3 n3 c3, .slice A4 n4 c4] 25) = w5 at *
    refine (same10 _ _ _ _ _ (H1.out.call HB.out) (K1.out.call HB.out) hz.1).mono ?_
    rintro e w1 ⟨rfl, b1⟩
    rw [hd]
    obtain ⟨x0, x1, _, _⟩ := blk2 (blk_call HX.out b1)
    obtain ⟨y0, y1, _, _⟩ := blk2 (blk_call HY.out b1)
    have HB1 := Lib.hid (HB.out.trans (b1.mono HB.out.size))
    clear b1
    go_wp2_with fail
    refine (same11 _ _ _ _ _ (H2.out.call HB1.out) (K2.out.call HB1.out) hz.2).mono ?_
    rintro e w2 ⟨rfl, b2⟩
    have HB2 := Lib.hid (HB1.out.trans (b2.mono HB1.out.size))
    clear b2
    go_wp2
    rw [E0.out, hd, Bool.true_and]
    go_ret
    exact ⟨rfl, HB2.out⟩
  · have hd : decide (p = p') = false := decide_eq_false hp
    go_enter Try.func19, Try.ntmps19
    go_wp2_with fail
    generalize (w.alloc (.cells #[.slice A1 n1 c1, .slice A2 n2 c2] 25)).alloc (.cells #[.slice A3 n3 c3, .slice A4 n4 c4] 25) = w5 at *
    refine (same10 _ _ _ _ _ (H1.out.call HB.out) (K1.out.call HB.out) hz.1).mono ?_
    rintro e w1 ⟨rfl, b1⟩
    rw [hd]
    have HB1 := Lib.hid (HB.out.trans (b1.mono HB.out.size))
    clear b1
    go_wp2
    rw [E0.out, hd, Bool.false_and]
    go_ret
    exact ⟨rfl, HB1.out⟩
set_option maxHeartbeats 1600000 in
theorem sameU20 (v1 v2 u1 u2 : Value) (p p' : List ByteArray) (q q' : List Pr) (w : World) (h1 : Ss w v1 p) (h2 : Ps w v2 q) (k1 : Ss w u1 p') (k2 : Ps w u2 q') (hz : p.length ≤ 100000 ∧ q.length ≤ 100000) :
    Calls Try.prog 20 #[.agg #[v1, v2], .agg #[u1, u2]] w fun e w' => e = .returned (.bool (eqB p q p' q')) ∧ Below w.heap.size w w' := by
  have H1 := Lib.hid h1
  have H2 := Lib.hid h2
  have K1 := Lib.hid k1
  have K2 := Lib.hid k2
  obtain ⟨A1, n1, c1, rfl⟩ := h1.shape
  obtain ⟨A2, n2, c2, rfl⟩ := h2.shape
  obtain ⟨A3, n3, c3, rfl⟩ := k1.shape
  obtain ⟨A4, n4, c4, rfl⟩ := k2.shape
  clear h1 h2 k1 k2
  have HX := Lib.hid (blk_alloc (blk_new w (.cells #[.slice A1 n1 c1, .slice A2 n2 c2] 25 (0, 0))) (.cells #[.slice A3 n3 c3, .slice A4 n4 c4] 25 (0, 0)))
  have HY := Lib.hid (blk_new1 w (.cells #[.slice A1 n1 c1, .slice A2 n2 c2] 25 (0, 0)) (.cells #[.slice A3 n3 c3, .slice A4 n4 c4] 25 (0, 0)))
  have HB := Lib.hid (((Below.refl w.heap.size w).alloc (Nat.le_refl _) (.cells #[.slice A1 n1 c1, .slice A2 n2 c2] 25 (0, 0))).alloc (by simp) (.cells #[.slice A3 n3 c3, .slice A4 n4 c4] 25 (0, 0)))
  have e0 : eqB p q p' q' = (decide (p = p') && decide (q = q')) := rfl
  have E0 := Lib.hid e0
  clear e0
  by_cases hp : p = p'
  · have hd : decide (p = p') = true := decide_eq_true hp
    have HP := Lib.hid hp
    clear hp
    go_enter Try.func20, Try.ntmps20
    go_wp2_with fail
    generalize (w.alloc (.cells #[.slice A1 n1 c1, .slice A2 n2 c2] 25)).alloc (.cells #[.slice A3 n3 c3, .slice A4 n4 c4] 25) = w5 at *
    refine (equal31 _ _ _ _ _ (H1.out.call HB.out) (K1.out.call HB.out) hz.1).mono ?_
    rintro e w1 ⟨rfl, b1⟩
    rw [hd]
    obtain ⟨x0, x1, _, _⟩ := blk2 (blk_call HX.out b1)
    obtain ⟨y0, y1, _, _⟩ := blk2 (blk_call HY.out b1)
    have HB1 := Lib.hid (HB.out.trans (b1.mono HB.out.size))
    clear b1
    go_wp2_with fail
    refine (equal32 _ _ _ _ _ (H2.out.call HB1.out) (K2.out.call HB1.out) hz.2).mono ?_
    rintro e w2 ⟨rfl, b2⟩
    have HB2 := Lib.hid (HB1.out.trans (b2.mono HB1.out.size))
    clear b2
    go_wp2
    rw [E0.out, hd, Bool.true_and]
    go_ret
    exact ⟨rfl, HB2.out⟩
  · have hd : decide (p = p') = false := decide_eq_false hp
    go_enter Try.func20, Try.ntmps20
    go_wp2_with fail
    generalize (w.alloc (.cells #[.slice A1 n1 c1, .slice A2 n2 c2] 25)).alloc (.cells #[.slice A3 n3 c3, .slice A4 n4 c4] 25) = w5 at *
    refine (equal31 _ _ _ _ _ (H1.out.call HB.out) (K1.out.call HB.out) hz.1).mono ?_
    rintro e w1 ⟨rfl, b1⟩
    rw [hd]
    have HB1 := Lib.hid (HB.out.trans (b1.mono HB.out.size))
    clear b1
    go_wp2
    rw [E0.out, hd, Bool.false_and]
    go_ret
    exact ⟨rfl, HB1.out⟩

/-- the first value of a name -/
def gtF (q : List Pr) (n : ByteArray) : Option ByteArray := (q.find? (fun x => decide (x.1 = n))).map (·.2)
def gtS (q : List Pr) (n : ByteArray) : ByteArray := (gtF q n).getD ⟨#[]⟩
def gtB (q : List Pr) (n : ByteArray) : Bool := (gtF q n).isSome

theorem gt_at (q : List Pr) (n : ByteArray) (k : Nat) (h : k < q.length) (ha : (q.take k).all (fun x => decide (¬ x.1 = n)) = true) (he : (q.getD k default).1 = n) : gtS q n = (q.getD k default).2 ∧ gtB q n = true := by
  have e : gtF q n = some (q.getD k default).2 := by
    rw [gtF]
    conv => lhs; rw [← List.take_append_drop k q]
    rw [List.find?_append, List.find?_eq_none.2 ?_, Option.none_or, List.drop_eq_getElem_cons h, List.find?_cons_of_pos]
    · simp [List.getD, h]
    · simp only [List.getD, List.getElem?_eq_getElem h, Option.getD_some] at he
      exact decide_eq_true he
    · intro x hx
      rw [List.all_eq_true] at ha
      have := of_decide_eq_true (ha x hx)
      simpa using this
  rw [gtS, gtB, e]
  exact ⟨rfl, rfl⟩
theorem gt_none (q : List Pr) (n : ByteArray) (ha : q.all (fun x => decide (¬ x.1 = n)) = true) : gtS q n = ⟨#[]⟩ ∧ gtB q n = false := by
  have e : gtF q n = none := by
    rw [gtF, List.find?_eq_none.2 ?_]
    · rfl
    · intro x hx
      rw [List.all_eq_true] at ha
      have := of_decide_eq_true (ha x hx)
      simpa using this
  rw [gtS, gtB, e]
  exact ⟨rfl, rfl⟩

set_option maxHeartbeats 1600000 in
theorem get15 (v1 v2 : Value) (p : List ByteArray) (q : List Pr) (n : ByteArray) (w : World) (h1 : Ss w v1 p) (h2 : Ps w v2 q) (hz : q.length ≤ 100000) :
    Calls Try.prog 15 #[.agg #[v1, v2], .string n] w fun e w' => e = .returned (.tuple #[.string (gtS q n), .bool (gtB q n)]) ∧ Below w.heap.size w w' := by
  obtain ⟨A1, n1, c1, rfl⟩ := h1.shape
  clear h1
  obtain ⟨A2, c2, rfl, _, _, hc⟩ := h2
  have HC := Lib.hid hc
  clear hc
  have HK := Lib.hid (blk_new w (.cells #[.slice A1 n1 c1, .slice A2 q.length c2] 25 (0, 0)))
  have HB := Lib.hid ((Below.refl w.heap.size w).alloc (Nat.le_refl _) (.cells #[.slice A1 n1 c1, .slice A2 q.length c2] 25 (0, 0)))
  go_enter Try.func15, Try.ntmps15
  go_wp2_with fail
  generalize w.alloc (.cells #[.slice A1 n1 c1, .slice A2 q.length c2] 25) = w5 at *
  have hsz := HB.out.size
  have hlt5 := blk_lt HK.out
  go_loopw [11] (fun i wr => ∃ (k : Nat), k ≤ q.length ∧ i = .int .i64 k ∧ (q.take k).all (fun x => decide (¬ x.1 = n)) = true ∧ Below w5.heap.size w5 wr) (fun i _ => q.length - (intOf i).toNat)
  case atStart => exact ⟨0, Nat.zero_le _, rfl, by simp, Below.refl _ _⟩
  case round =>
    obtain ⟨k, hk, rfl, hall, hB6⟩ := hrel
    have HA := Lib.hid hall
    have H6 := Lib.hid hB6
    clear hall hB6
    by_cases hlt : k < q.length
    · obtain ⟨b, o, rfl, hcell, hcelb⟩ := HC.out k hlt
      have g1 : wr.cell? ⟨b, o + k * 2, none⟩ = some (.string (q.getD k default).1) := by
        have hl := World.block_lt_of_cell? _ _ hcell
        rw [H6.out.cell (show b < w5.heap.size by have : b < w.heap.size := hl; omega), HB.out.cell hl]; exact hcell
      have g2 : wr.cell? ⟨b, o + k * 2 + 1, none⟩ = some (.string (q.getD k default).2) := by
        have hl := World.block_lt_of_cell? _ _ hcelb
        rw [H6.out.cell (show b < w5.heap.size by have : b < w.heap.size := hl; omega), HB.out.cell hl]; exact hcelb
      have c0 : (k : Int) < (q.length : Int) := by omega
      have HL := Lib.hid (all_next (fun x : Pr => decide (¬ x.1 = n)) q k hlt)
      have HQ := Lib.hid (gt_at q n k hlt HA.out)
      clear hcell hcelb
      generalize q.getD k default = x at *
      obtain ⟨x, y⟩ := x
      simp only at g1 g2
      have hsz6 := H6.out.size
      by_cases hx : x = n
      · have q1 := str_beq x n hx
        obtain ⟨e1, e2⟩ := HQ.out hx
        have E1 := Lib.hid e1
        have E2 := Lib.hid e2
        clear e1 e2 hx
        go_wp2
        rw [E1.out, E2.out]
        go_ret2
        exact ⟨rfl, HB.out.trans ((H6.out.alloc (by omega) _).mono hsz)⟩
      · have q1 := str_bne x n hx
        have HX := Lib.hid hx
        clear hx
        go_wp2_with fail
        go_roundw
        case rel => exact ⟨k + 1, by omega, by go_num, by rw [HL.out, HA.out, Bool.true_and]; exact decide_eq_true HX.out, H6.out.alloc (by omega) _⟩
        case measure => simp [intOf]; omega
    · obtain rfl : k = q.length := by omega
      obtain ⟨e1, e2⟩ := gt_none q n (by simpa using HA.out)
      have E1 := Lib.hid e1
      have E2 := Lib.hid e2
      clear e1 e2
      go_wp2
      rw [E1.out, E2.out]
      go_ret2
      exact ⟨rfl, HB.out.trans (H6.out.mono hsz)⟩
end Go.Proofs.Ytcppccpglcolnaa
