/-
  URLParts: its first region, whatever has come; a slice of texts that is stored into; what its texts are.
-/
import Derived.Test.YtcppccpglcolnaaTurnedWalk
import Derived.Test.YtcppccpglcolnaaInv
import Derived.Deep.OwnRows
namespace Go.Proofs.Ytcppccpglcolnaa
open Go.RowKit Go.PlainAid

/-! what url21 answers -/
def KeepV (w : World) (t : Value) : Prop :=
  ∃ (A : Option Addr) (n c : Nat) (A' : Option Addr) (n' c' : Nat) (p : List ByteArray) (q : List Pr), t = .agg #[.slice A n c, .slice A' n' c'] ∧ Ss w (.slice A n c) p ∧ Ps w (.slice A' n' c') q ∧ KeepOK p q
theorem keepV_of {w' : World} {v1 v2 : Value} {p : List ByteArray} {q : List Pr} (g1 : Ss w' v1 p) (g2 : Ps w' v2 q) (g3 : KeepOK p q) : KeepV w' (.agg #[v1, v2]) := by
  obtain ⟨A, n, c, rfl⟩ := g1.shape
  obtain ⟨A', n', c', rfl⟩ := g2.shape
  exact ⟨_, _, _, _, _, _, p, q, rfl, g1, g2, g3⟩
theorem KeepV.call {w w' : World} {t : Value} (h : KeepV w t) (hb : Below w.heap.size w w') : KeepV w' t := by
  obtain ⟨A, n, c, A', n', c', p, q, h1, h2, h3, h4⟩ := h
  exact ⟨A, n, c, A', n', c', p, q, h1, h2.call hb, h3.call hb, h4⟩
theorem KeepV.set2 {w : World} {t : Value} (h : KeepV w t) {b : Nat} {A B : Option Addr} {n m c d : Nat} {ty : TypeId} (hk : w.heap[b]? = some (.cells #[.slice A n c, .slice B m d] ty (0, 0))) (x y : Value) : KeepV ((w.setCell ⟨b, 0, none⟩ x).setCell ⟨b, 1, none⟩ y) t := by
  obtain ⟨A, n, c, A', n', c', p, q, h1, h2, h3, h4⟩ := h
  exact ⟨A, n, c, A', n', c', p, q, h1, h2.set2 hk x y, h3.set2 hk x y, h4⟩

def nil25 : Obj := .cells #[.slice none 0 0, .slice none 0 0] 25 (0, 0)
/-- block N: nothing stored yet, or t -/
def Slot (b : Bool) (t : Value) (w : World) (N : Nat) : Prop :=
  (b = false → w.heap[N]? = some nil25) ∧ (b = true → ∃ x y, t = .agg #[x, y] ∧ w.heap[N]? = some (.cells #[x, y] 25 (0, 0)))
theorem Slot.lt {b : Bool} {t : Value} {w : World} {N : Nat} (h : Slot b t w N) : N < w.heap.size := by
  cases b
  · exact blk_lt (h.1 rfl)
  · obtain ⟨x, y, _, h2⟩ := h.2 rfl
    exact blk_lt h2
theorem Slot.call {b : Bool} {t : Value} {w w' : World} {N : Nat} (h : Slot b t w N) (hb : Below w.heap.size w w') : Slot b t w' N := by
  refine ⟨fun e => blk_call (h.1 e) hb, fun e => ?_⟩
  obtain ⟨x, y, h1, h2⟩ := h.2 e
  exact ⟨x, y, h1, blk_call h2 hb⟩
theorem Slot.other {b : Bool} {t : Value} {w : World} {N M : Nat} (h : Slot b t w N) (hne : N ≠ M) (x y : Value) : Slot b t ((w.setCell ⟨M, 0, none⟩ x).setCell ⟨M, 1, none⟩ y) N := by
  have e : ((w.setCell ⟨M, 0, none⟩ x).setCell ⟨M, 1, none⟩ y).heap[N]? = w.heap[N]? := by
    rw [Below.heap_setCell _ _ _ _ hne, Below.heap_setCell _ _ _ _ hne]
  exact ⟨fun a => e.trans (h.1 a), fun a => by
    obtain ⟨x, y, h1, h2⟩ := h.2 a
    exact ⟨x, y, h1, e.trans h2⟩⟩

theorem slot_set {w : World} {N : Nat} (hb : w.heap[N]? = some nil25) (x y : Value) : Slot true (.agg #[x, y]) ((w.setCell ⟨N, 0, none⟩ x).setCell ⟨N, 1, none⟩ y) N :=
  And.intro (fun a => by cases a) (fun _ => ⟨x, y, rfl, blk_set2u hb x y⟩)

structure PI (w0 : World) (b1 b3 b4 b5 b6 b7 : Bool) (t18 t20 t7 t8 : Value) (w : World) : Prop where
  bel : Below w0.heap.size w0 w
  o6 : b6 = true → b1 = true ∧ b4 = true
  o7 : b7 = true → b3 = true ∧ b5 = true
  f1 : b1 = true → KeepV w t18
  f3 : b3 = true → KeepV w t20
  f4 : b4 = true → ∃ N, w0.heap.size ≤ N ∧ t7 = .pointer (some ⟨N, 0, none⟩) ∧ Slot b6 t18 w N
  f5 : b5 = true → ∃ N, w0.heap.size ≤ N ∧ t8 = .pointer (some ⟨N, 0, none⟩) ∧ Slot b7 t20 w N
  ne : b4 = true → b5 = true → t7 ≠ t8

section
variable {w0 : World} {b1 b3 b4 b5 b6 b7 : Bool} {t18 t20 t7 t8 : Value} {w : World}
theorem pi_start (w0 : World) (t18 t20 t7 t8 : Value) {w : World} (hb : Below w0.heap.size w0 w) : PI w0 false false false false false false t18 t20 t7 t8 w := by
  refine ⟨hb, ?_, ?_, ?_, ?_, ?_, ?_, ?_⟩ <;> (intro h; cases h)
theorem pi_call (h : PI w0 b1 b3 b4 b5 b6 b7 t18 t20 t7 t8 w) {w' : World} (hb : Below w.heap.size w w') : PI w0 b1 b3 b4 b5 b6 b7 t18 t20 t7 t8 w' where
  bel := h.bel.trans (hb.mono h.bel.size)
  o6 := h.o6
  o7 := h.o7
  f1 := fun a => (h.f1 a).call hb
  f3 := fun a => (h.f3 a).call hb
  f4 := fun a => by
    obtain ⟨N, h1, h2, h3⟩ := h.f4 a
    exact ⟨N, h1, h2, h3.call hb⟩
  f5 := fun a => by
    obtain ⟨N, h1, h2, h3⟩ := h.f5 a
    exact ⟨N, h1, h2, h3.call hb⟩
  ne := h.ne
theorem slot_false {t t' : Value} {b : Bool} {w : World} {N : Nat} (h : Slot b t w N) (hb : b = false) : Slot b t' w N :=
  ⟨h.1, fun e => by rw [hb] at e; cases e⟩
theorem pi1 (h : PI w0 false b3 b4 b5 b6 b7 t18 t20 t7 t8 w) {w' : World} {v : Value} (hv : KeepV w' v) (hb : Below w.heap.size w w') : PI w0 true b3 b4 b5 b6 b7 v t20 t7 t8 w' :=
  have k := pi_call h hb
  have hb6 : b6 = false := by
    cases b6
    · rfl
    · have := (h.o6 rfl).1; cases this
  { k with
    o6 := fun a => ⟨rfl, (h.o6 a).2⟩
    f1 := fun _ => hv
    f4 := fun a => by
      obtain ⟨N, h1, h2, h3⟩ := k.f4 a
      exact ⟨N, h1, h2, slot_false h3 hb6⟩ }
theorem pi3 (h : PI w0 b1 false b4 b5 b6 b7 t18 t20 t7 t8 w) {w' : World} {v : Value} (hv : KeepV w' v) (hb : Below w.heap.size w w') : PI w0 b1 true b4 b5 b6 b7 t18 v t7 t8 w' :=
  have k := pi_call h hb
  have hb7 : b7 = false := by
    cases b7
    · rfl
    · have := (h.o7 rfl).1; cases this
  { k with
    o7 := fun a => ⟨rfl, (h.o7 a).2⟩
    f3 := fun _ => hv
    f5 := fun a => by
      obtain ⟨N, h1, h2, h3⟩ := k.f5 a
      exact ⟨N, h1, h2, slot_false h3 hb7⟩ }
theorem pi4 (h : PI w0 b1 b3 false b5 b6 b7 t18 t20 t7 t8 w) : PI w0 b1 b3 true b5 b6 b7 t18 t20 (.pointer (some ⟨w.heap.size, 0, none⟩)) t8 (w.alloc nil25) :=
  have k := pi_call h ((Below.refl _ _).alloc (Nat.le_refl _) nil25)
  have hb6 : b6 = false := by
    cases b6
    · rfl
    · have := (h.o6 rfl).2; cases this
  { k with
    o6 := fun a => ⟨(h.o6 a).1, rfl⟩
    f4 := fun _ => ⟨_, h.bel.size, rfl, fun _ => blk_new _ _, fun a => by rw [hb6] at a; cases a⟩
    ne := fun _ b e => by
      obtain ⟨N, _, h2, h3⟩ := h.f5 b
      rw [h2] at e
      simp only [Value.pointer.injEq, Option.some.injEq, Addr.mk.injEq] at e
      have := h3.lt
      omega }
theorem pi5 (h : PI w0 b1 b3 b4 false b6 b7 t18 t20 t7 t8 w) : PI w0 b1 b3 b4 true b6 b7 t18 t20 t7 (.pointer (some ⟨w.heap.size, 0, none⟩)) (w.alloc nil25) :=
  have k := pi_call h ((Below.refl _ _).alloc (Nat.le_refl _) nil25)
  have hb7 : b7 = false := by
    cases b7
    · rfl
    · have := (h.o7 rfl).2; cases this
  { k with
    o7 := fun a => ⟨(h.o7 a).1, rfl⟩
    f5 := fun _ => ⟨_, h.bel.size, rfl, fun _ => blk_new _ _, fun a => by rw [hb7] at a; cases a⟩
    ne := fun b _ e => by
      obtain ⟨N, _, h2, h3⟩ := h.f4 b
      rw [h2] at e
      simp only [Value.pointer.injEq, Option.some.injEq, Addr.mk.injEq] at e
      have := h3.lt
      omega }
theorem pi6 {x y : Value} {N : Nat} (h : PI w0 true b3 true b5 false b7 (.agg #[x, y]) t20 (.pointer (some ⟨N, 0, none⟩)) t8 w) (hN : w0.heap.size ≤ N) (hb : w.heap[N]? = some nil25) :
    PI w0 true b3 true b5 true b7 (.agg #[x, y]) t20 (.pointer (some ⟨N, 0, none⟩)) t8 ((w.setCell ⟨N, 0, none⟩ x).setCell ⟨N, 1, none⟩ y) where
  bel := (h.bel.setCell hN _).setCell hN _
  o6 := fun _ => ⟨rfl, rfl⟩
  o7 := h.o7
  f1 := fun a => (h.f1 a).set2 hb x y
  f3 := fun a => (h.f3 a).set2 hb x y
  f4 := fun _ => ⟨N, hN, rfl, slot_set hb x y⟩
  f5 := fun a => by
    obtain ⟨M, h1, h2, h3⟩ := h.f5 a
    refine ⟨M, h1, h2, h3.other ?_ x y⟩
    rintro rfl
    exact h.ne rfl a h2.symm
  ne := h.ne
theorem pi7 {x y : Value} {N : Nat} (h : PI w0 b1 true b4 true b6 false t18 (.agg #[x, y]) t7 (.pointer (some ⟨N, 0, none⟩)) w) (hN : w0.heap.size ≤ N) (hb : w.heap[N]? = some nil25) :
    PI w0 b1 true b4 true b6 true t18 (.agg #[x, y]) t7 (.pointer (some ⟨N, 0, none⟩)) ((w.setCell ⟨N, 0, none⟩ x).setCell ⟨N, 1, none⟩ y) where
  bel := (h.bel.setCell hN _).setCell hN _
  o6 := h.o6
  o7 := fun _ => ⟨rfl, rfl⟩
  f1 := fun a => (h.f1 a).set2 hb x y
  f3 := fun a => (h.f3 a).set2 hb x y
  f4 := fun a => by
    obtain ⟨M, h1, h2, h3⟩ := h.f4 a
    refine ⟨M, h1, h2, h3.other ?_ x y⟩
    rintro rfl
    exact h.ne a rfl h2
  f5 := fun _ => ⟨N, hN, rfl, slot_set hb x y⟩
  ne := h.ne
/-- all have come -/
theorem pi_end (h : PI w0 true true true true true true t18 t20 t7 t8 w) : ∃ N M V1 d1 e1 V2 d2 e2 V3 d3 e3 V4 d4 e4 p q p' q',
    t7 = .pointer (some ⟨N, 0, none⟩) ∧ t8 = .pointer (some ⟨M, 0, none⟩) ∧ w.heap[N]? = some (.cells #[.slice V1 d1 e1, .slice V2 d2 e2] 25 (0, 0)) ∧ w.heap[M]? = some (.cells #[.slice V3 d3 e3, .slice V4 d4 e4] 25 (0, 0)) ∧
    Ss w (.slice V1 d1 e1) p ∧ Ps w (.slice V2 d2 e2) q ∧ KeepOK p q ∧ Ss w (.slice V3 d3 e3) p' ∧ Ps w (.slice V4 d4 e4) q' ∧ KeepOK p' q' ∧ Below w0.heap.size w0 w := by
  obtain ⟨N, _, h2, h3⟩ := h.f4 rfl
  obtain ⟨M, _, k2, k3⟩ := h.f5 rfl
  obtain ⟨V1, d1, e1, V2, d2, e2, p, q, rfl, m2, m3, m4⟩ := h.f1 rfl
  obtain ⟨V3, d3, e3, V4, d4, e4, p', q', rfl, n2, n3, n4⟩ := h.f3 rfl
  obtain ⟨x, y, ha, hb⟩ := h3.2 rfl
  obtain ⟨x', y', ka, kb⟩ := k3.2 rfl
  cases ha
  cases ka
  exact ⟨N, M, V1, d1, e1, V2, d2, e2, V3, d3, e3, V4, d4, e4, p, q, p', q', h2, k2, hb, kb, m2, m3, m4, n2, n3, n4, h.bel⟩
end

/-! a slice of texts that is stored into -/
def aS : ByteArray := ⟨#[97]⟩
def RowA (L n k : Nat) (w : World) : Prop := ∃ C : Array Value, w.heap[L]? = some (.cells C 9 (0, 0)) ∧ C.size = n ∧ ∀ j, j < k → C[j]? = some (.string aS)
theorem RowA.new (w : World) (n : Nat) : RowA w.heap.size n 0 (w.alloc (.cells (madeCells #[.string ⟨#[]⟩] n) 9 (0, 0))) := ⟨_, blk_new _ _, size_madeCells _ _, fun j hj => by omega⟩
theorem RowA.call {L n k : Nat} {w w' : World} (h : RowA L n k w) (hb : Below w.heap.size w w') : RowA L n k w' := by
  obtain ⟨C, h1, h2, h3⟩ := h
  exact ⟨C, blk_call h1 hb, h2, h3⟩
theorem RowA.at {L n k j : Nat} {w : World} (h : RowA L n k w) (hj : j < n) : (∃ x, w.cell? ⟨L, j, none⟩ = some x) ∧ w.frozen? ⟨L, j, none⟩ = false := by
  obtain ⟨C, h1, h2, h3⟩ := h
  refine ⟨⟨C[j]'(by omega), ?_⟩, blk_frozen h1 j⟩
  rw [blk_cell h1]
  simp [show j < C.size by omega]
theorem RowA.set {L n k : Nat} {w : World} (h : RowA L n k w) (hk : k < n) : RowA L n (k + 1) (w.setCell ⟨L, k, none⟩ (.string aS)) := by
  obtain ⟨C, h1, h2, h3⟩ := h
  refine ⟨_, blk_setCell h1 k _, by simpa using h2, fun j hj => ?_⟩
  rw [Array.getElem?_setIfInBounds]
  by_cases e : k = j
  · subst e
    simp [show k < C.size by omega]
  · rw [if_neg e]
    exact h3 j (by omega)
theorem RowA.ss {L n k : Nat} {w : World} (h : RowA L n k w) {m : Nat} (hm : m ≤ k) (hn : m ≤ n) : Ss w (.slice (some ⟨L, 0, none⟩) m n) (List.replicate m aS) := by
  obtain ⟨C, h1, h2, h3⟩ := h
  refine ⟨some ⟨L, 0, none⟩, n, by rw [List.length_replicate], by rw [List.length_replicate]; exact hn, (fun e => by cases e), fun i hi => ⟨L, 0, rfl, ?_⟩⟩
  rw [List.length_replicate] at hi
  rw [Nat.zero_add, blk_cell h1, h3 i (by omega)]
  simp [List.getD, hi]

/-! what is right, what isn't -/
theorem right_long (n : Nat) (h : 9 ≤ n) : rightB (List.replicate n aS) [] = false := by
  rw [rightB, decide_eq_false (by rw [List.length_replicate]; omega)]
  rfl
theorem prn_long (n : Nat) (h : 9 ≤ n) : prnS (List.replicate n aS) [] = ⟨#[]⟩ := by rw [prnS, right_long n h]; rfl
theorem right_full : rightB (List.replicate 8 aS) [] = true := by decide +kernel
def wideS : ByteArray := st (List.replicate 65 0)
theorem right_wide : rightB [wideS] [] = false := by decide +kernel
theorem zeros_text (w : World) (n : Nat) : (convert 47 9 (.slice (some ⟨w.heap.size, 0, none⟩) n n)).run Try.prog (w.alloc (.cells (madeCells #[.int .u8 0] n) 5 (0, 0))) = .ok (.string (st (List.replicate n 0))) (w.alloc (.cells (madeCells #[.int .u8 0] n) 5 (0, 0))) := by
  refine run_convert_bytes_arg (w.alloc (.cells (madeCells #[.int .u8 0] n) 5 (0, 0))) 47 5 Try.underlying47 Try.underlying5 w.heap.size 0 n n (List.replicate n 0) (by simp) ?_ 9 Try.underlying9
  intro i hi
  rw [blk_cell (blk_new _ _), Nat.zero_add]
  have e : (madeCells #[Value.int .u8 0] n)[i]? = (madeCells #[Value.int .u8 0] n).toList[i]? := Array.getElem?_toList.symm
  rw [e, toList_madeCells_one]
  simp [List.getD, hi]
theorem wide_text (w : World) : (convert 47 9 (.slice (some ⟨w.heap.size, 0, none⟩) 65 65)).run Try.prog (w.alloc (.cells (madeCells #[.int .u8 0] 65) 5 (0, 0))) = .ok (.string wideS) (w.alloc (.cells (madeCells #[.int .u8 0] 65) 5 (0, 0))) := zeros_text w 65

/-! what the texts are -/
theorem right_nilQ {p : List ByteArray} {q : List Pr} (h : rightB p q = true) : rightB p [] = true ∧ rightB [] q = true := by
  rw [rightB, Bool.and_eq_true, Bool.and_eq_true, decide_eq_true_iff] at h
  obtain ⟨⟨h1, h2⟩, h3, h4⟩ := h
  constructor
  · rw [rightB, Bool.and_eq_true, Bool.and_eq_true, decide_eq_true_iff]
    exact ⟨⟨h1, by simp⟩, h3, rfl⟩
  · rw [rightB, Bool.and_eq_true, Bool.and_eq_true, decide_eq_true_iff]
    exact ⟨⟨by simp, h2⟩, rfl, h4⟩
theorem right_both {p p' : List ByteArray} {q q' : List Pr} (h : rightB p q = true) (h' : rightB p' q' = true) : rightB p q' = true := by
  rw [rightB, Bool.and_eq_true, Bool.and_eq_true, decide_eq_true_iff] at h h' ⊢
  exact ⟨⟨h.1.1, h'.1.2⟩, h.2.1, h'.2.2⟩
theorem qryL_inR' (q : List Pr) : InR (47 :: qryL q) := by
  have := urlL_inR [] q
  exact this
theorem prn_both {p : List ByteArray} {q : List Pr} (h : rightB p q = true) : prnS p q = prnS p [] ++ (prnS [] q).extract 1 (prnS [] q).size := by
  obtain ⟨h1, h2⟩ := right_nilQ h
  have e1 : prnS p q = st (headL p) ++ st (qryL q) := by rw [prnS, if_pos h, urlL, st_append]
  have e2 : prnS p [] = st (headL p) := by rw [prnS, if_pos h1, urlL, qryL, List.append_nil]
  have e3 : prnS [] q = st (47 :: qryL q) := by rw [prnS, if_pos h2, urlL]; rfl
  have e4 : (prnS [] q).extract 1 (prnS [] q).size = st (qryL q) := by
    apply bs_inj
    have hr := qryL_inR' q
    rw [bs_tail, e3, bs_st hr, bs_st (fun x hx => hr x (by simp [hx]))]
    rfl
  rw [e1, e2, e4]
def abS : ByteArray := ⟨#[97, 47, 98]⟩
def abT : ByteArray := ⟨#[47, 97, 37, 50, 70, 98]⟩
theorem prn_more {p : List ByteArray} (h : rightB p [] = true) (hp : p ≠ []) (hl : p.length ≤ 5) : prnS (p ++ [abS]) [] = prnS p [] ++ abT := by
  have h2 : rightB (p ++ [abS]) [] = true := by
    rw [rightB, Bool.and_eq_true, Bool.and_eq_true, decide_eq_true_iff] at h ⊢
    refine ⟨⟨by simp; omega, by simp⟩, ?_, rfl⟩
    rw [List.all_append, h.2.1]
    rfl
  have e1 : headL (p ++ [abS]) = pathL p ++ segL abS := by
    rw [headL, if_neg (by simp), pathL, List.flatMap_append]
    simp [pathL]
  have e2 : headL p = pathL p := by rw [headL, if_neg hp]
  rw [prnS, if_pos h2, prnS, if_pos h, urlL, urlL, e1, e2, qryL, List.append_nil, List.append_nil, st_append]
  have e3 : st (segL abS) = abT := by decide +kernel
  rw [e3]
end Go.Proofs.Ytcppccpglcolnaa
