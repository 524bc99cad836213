/-
  A row of numbers that is stored into; the places of those that have a path, put in one by one (pure).
-/
import Derived.Test.YtgiepgbjkkhniaaTok
namespace Go.Proofs.Ytgiepgbjkkhniaa
open Go.RowKit Go.PlainAid
set_option maxRecDepth 100000
/-- the cells of a row of the call's own -/
theorem OwnI.box {B : Nat} {w0 w : World} {v : Value} {ns : List Nat} (h : OwnI B w0 v ns w) (hne : ns ≠ []) : ∃ g cap, v = .slice (some ⟨g, 0, none⟩) ns.length cap ∧ B ≤ g ∧ (∀ i, i < ns.length → w.cell? ⟨g, i, none⟩ = some (.int .i64 (ns.getD i 0 : Nat))) ∧ ∀ i, w.frozen? ⟨g, i, none⟩ = false := by
  have hc := @World.ownsRow.cells _ _ _ _ _ _ _ h.1
  obtain ⟨hl, ⟨rfl, h1⟩ | ⟨g, cap, cur, rfl, hB, hg, h4, _⟩⟩ := h.1
  · exact absurd (List.eq_nil_of_length_eq_zero h1) hne
  · refine ⟨g, cap, rfl, hB, fun i hi => ?_, fun i => blk_frozen hg i⟩
    have := hc rfl i (.int .i64 (ns.getD i 0 : Nat)) (by simp [niC, List.getD, hi])
    rw [add_lit', Nat.zero_add] at this
    exact this
theorem OwnI.set {B : Nat} {w0 w : World} {ns : List Nat} {g n cap : Nat} (h : OwnI B w0 (.slice (some ⟨g, 0, none⟩) n cap) ns w) (i y : Nat) : OwnI B w0 (.slice (some ⟨g, 0, none⟩) n cap) (ns.set i y) (w.setCell ⟨g, i, none⟩ (.int .i64 (y : Nat))) := by
  obtain ⟨⟨hl, h1⟩, h2, h3⟩ := h
  rcases h1 with ⟨e, _⟩ | ⟨g', cap', cur, e, hB, hg, h4, h5, h6, h7⟩
  · cases e
  · simp only [Value.slice.injEq, Option.some.injEq, Addr.mk.injEq, and_true] at e
    obtain ⟨rfl, rfl, rfl⟩ := e
    refine ⟨⟨by simp [niC], Or.inr ⟨g, cap, cur.setIfInBounds i (.int .i64 (y : Nat)), by rw [List.length_set], hB, blk_setCell hg _ _, by rw [List.length_set]; exact h4, h5, by simpa using h6, ?_⟩⟩, h2.setCell hB _, by simpa [World.setCell] using h3⟩
    rw [List.length_set, Array.toList_setIfInBounds, List.take_set, h7]
    simp [niC, List.map_set]
/-- the places of those of the first k that have the path, in order -/
def AllK (ls : List (List Sg)) (path : List ByteArray) (k : Nat) (al : List Nat) : Prop := al.Pairwise (fun i j => cW ls i j < 0) ∧ ∀ i, i ∈ al ↔ i < k ∧ mtB (ls.getD i default) path = true
theorem AllK.skip {ls : List (List Sg)} {path : List ByteArray} {k : Nat} {al : List Nat} (h : AllK ls path k al) (hm : mtB (ls.getD k default) path = false) : AllK ls path (k + 1) al := by
  refine ⟨h.1, fun i => ?_⟩
  rw [h.2]
  constructor
  · exact fun h => ⟨by omega, h.2⟩
  · rintro ⟨h1, h2⟩
    by_cases e : i = k
    · rw [e, hm] at h2; cases h2
    · exact ⟨by omega, h2⟩
/-- where the new one is: q of the elder ones ahead of it; it goes ahead of those behind it -/
def InsM (ls : List (List Sg)) (al : List Nat) (x q : Nat) (cur : List Nat) : Prop := q ≤ al.length ∧ cur = al.take q ++ x :: al.drop q ∧ ∀ y ∈ al.drop q, cW ls x y < 0
theorem insM_start {ls : List (List Sg)} {al : List Nat} {x : Nat} : InsM ls al x al.length (al ++ [x]) := ⟨Nat.le_refl _, by simp, by simp⟩
theorem insM_next {ls : List (List Sg)} {al cur : List Nat} {x q : Nat} (h : InsM ls al x (q + 1) cur) (hc : cW ls x (al.getD q 0) < 0) : InsM ls al x q ((cur.set (q + 1) (cur.getD q 0)).set q (cur.getD (q + 1) 0)) ∧ cur.getD (q + 1) 0 = x ∧ cur.getD q 0 = al.getD q 0 := by
  obtain ⟨h1, rfl, h3⟩ := h
  have ht : (al.take q).length = q := by rw [List.length_take]; omega
  have e1 : al.take (q + 1) = al.take q ++ [al.getD q 0] := by
    rw [List.take_add_one]
    simp only [List.getD, List.getElem?_eq_getElem (show q < al.length by omega), Option.toList_some, Option.getD_some]
  have e2 : al.drop q = al.getD q 0 :: al.drop (q + 1) := by
    rw [List.drop_eq_getElem_cons (by omega)]
    simp [List.getD, show q < al.length by omega]
  have g1 : (al.take (q + 1) ++ x :: al.drop (q + 1)).getD (q + 1) 0 = x := by
    rw [e1]
    simp only [List.getD]
    rw [List.getElem?_append_right (by simp; omega)]
    simp [ht]
  have g2 : (al.take (q + 1) ++ x :: al.drop (q + 1)).getD q 0 = al.getD q 0 := by
    rw [e1]
    simp only [List.getD]
    rw [List.append_assoc, List.getElem?_append_right (by omega), ht]
    simp
  refine ⟨⟨by omega, ?_, fun y hy => ?_⟩, g1, g2⟩
  · rw [g1, g2, e1, e2, List.append_assoc]
    rw [List.set_append_right _ _ (by omega), ht, List.set_append_right _ _ (by omega), ht]
    have s1 : q + 1 - q = 1 := by omega
    have s2 : q - q = 0 := by omega
    rw [s1, s2]
    simp
  · rw [e2, List.mem_cons] at hy
    rcases hy with rfl | hy
    · exact hc
    · exact h3 y hy
theorem insM_at {ls : List (List Sg)} {al cur : List Nat} {x q : Nat} (h : InsM ls al x (q + 1) cur) : cur.getD (q + 1) 0 = x ∧ cur.getD q 0 = al.getD q 0 := by
  obtain ⟨h1, rfl, h3⟩ := h
  have ht : (al.take q).length = q := by rw [List.length_take]; omega
  have e1 : al.take (q + 1) = al.take q ++ [al.getD q 0] := by
    rw [List.take_add_one]
    simp only [List.getD, List.getElem?_eq_getElem (show q < al.length by omega), Option.toList_some, Option.getD_some]
  constructor
  · rw [e1]
    simp only [List.getD]
    rw [List.getElem?_append_right (by simp; omega)]
    simp [ht]
  · rw [e1]
    simp only [List.getD]
    rw [List.append_assoc, List.getElem?_append_right (by omega), ht]
    simp
theorem insM_len {ls : List (List Sg)} {al cur : List Nat} {x q : Nat} (h : InsM ls al x q cur) : cur.length = al.length + 1 := by
  obtain ⟨h1, rfl, h3⟩ := h
  simp
  omega
theorem insM_end {ls : List (List Sg)} {path : List ByteArray} {k : Nat} {al cur : List Nat} {q : Nat} (ha : AllK ls path k al) (hm : mtB (ls.getD k default) path = true) (h : InsM ls al k q cur) (hq : q = 0 ∨ ∃ p, q = p + 1 ∧ cW ls (al.getD p 0) k < 0) : AllK ls path (k + 1) cur := by
  obtain ⟨h1, rfl, h3⟩ := h
  have hs := ha.1
  have hal : al = al.take q ++ al.drop q := (List.take_append_drop q al).symm
  constructor
  · rw [List.pairwise_append, List.pairwise_cons]
    have hs' := hs
    rw [hal, List.pairwise_append] at hs'
    refine ⟨hs'.1, ⟨h3, hs'.2.1⟩, fun a ha' b hb => ?_⟩
    rw [List.mem_cons] at hb
    rcases hb with rfl | hb
    · rcases hq with rfl | ⟨p, rfl, hp⟩
      · simp at ha'
      · have e1 : al.take (p + 1) = al.take p ++ [al.getD p 0] := by
          rw [List.take_add_one]
          simp only [List.getD, List.getElem?_eq_getElem (show p < al.length by omega), Option.toList_some, Option.getD_some]
        have hp1 := hs'.1
        rw [e1] at ha' hp1
        rw [List.mem_append] at ha'
        rcases ha' with ha' | ha'
        · have := (List.pairwise_append.1 hp1).2.2 a ha' (al.getD p 0) (List.mem_singleton.2 rfl)
          exact (tcW ls).lt_of_lt_le this (by omega)
        · simp only [List.mem_singleton] at ha'
          rw [ha']
          exact hp
    · exact hs'.2.2 a ha' b hb
  · intro i
    have hmem : i ∈ al.take q ++ k :: al.drop q ↔ i = k ∨ i ∈ al := by
      conv => rhs; rw [hal]
      simp only [List.mem_append, List.mem_cons]
      constructor
      · rintro (h | h | h)
        · exact Or.inr (Or.inl h)
        · exact Or.inl h
        · exact Or.inr (Or.inr h)
      · rintro (h | h | h)
        · exact Or.inr (Or.inl h)
        · exact Or.inl h
        · exact Or.inr (Or.inr h)
    rw [hmem, ha.2]
    constructor
    · rintro (rfl | h)
      · exact ⟨by omega, hm⟩
      · exact ⟨by omega, h.2⟩
    · rintro ⟨h4, h5⟩
      by_cases e : i = k
      · exact Or.inl e
      · exact Or.inr ⟨by omega, h5⟩
theorem AllK.len {ls : List (List Sg)} {path : List ByteArray} {k : Nat} {al : List Nat} (h : AllK ls path k al) {p : Nat} (hp : p < al.length) : al.getD p 0 < k := ((h.2 _).1 (nat_mem al p hp)).1
theorem nodup_le {l : List Nat} (hn : l.Nodup) {k : Nat} (h : ∀ i ∈ l, i < k) : l.length ≤ k := by
  induction k generalizing l with
  | zero =>
    cases l with
    | nil => simp
    | cons a l => exact absurd (h a (by simp)) (by omega)
  | succ k ih =>
    have h1 := ih (l := l.filter (fun i => decide (i ≠ k))) (hn.sublist List.filter_sublist) (fun i hi => by
      rw [List.mem_filter] at hi
      have := h i hi.1
      have h2 := of_decide_eq_true hi.2
      omega)
    have h3 : l.length ≤ (l.filter (fun i => decide (i ≠ k))).length + 1 := by
      clear h1 ih h
      induction l with
      | nil => simp
      | cons a l ih =>
        rw [List.nodup_cons] at hn
        by_cases e : a = k
        · subst e
          have : (a :: l).filter (fun i => decide (i ≠ a)) = l := by
            rw [List.filter_cons_of_neg (by simp)]
            rw [List.filter_eq_self]
            intro i hi
            simp
            intro e
            subst e
            exact hn.1 hi
          rw [this]
          simp
        · have := ih hn.2
          rw [List.filter_cons_of_pos (by simp [e])]
          simp only [List.length_cons]
          omega
    omega
theorem all_len {ls : List (List Sg)} {path : List ByteArray} {k : Nat} {al : List Nat} (h : AllK ls path k al) (h12 : ls.length ≤ 12) (hk : k ≤ ls.length) : al.length ≤ 1000 := by
  have hn : al.Nodup := h.1.imp fun {a b} hab e => by
    subst e
    rw [(tcW ls).refl] at hab
    omega
  have := nodup_le hn (fun i hi => ((h.2 i).1 hi).1)
  omega
end Go.Proofs.Ytgiepgbjkkhniaa
