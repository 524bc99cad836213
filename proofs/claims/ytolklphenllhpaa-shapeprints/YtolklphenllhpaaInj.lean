/-
  Right trees that print alike are the same. No program.
-/
import Derived.Test.YtolklphenllhpaaWoo
namespace Go.Proofs.Ytolklphenllhpaa
open Go.PlainAid
set_option maxRecDepth 100000

theorem esc_inj : ∀ (a b : List Int) (r r' : List Int), a.flatMap escL ++ 34 :: r = b.flatMap escL ++ 34 :: r' → a = b ∧ r = r'
  | [], [], r, r' => fun h => by simpa using h
  | [], c :: b, r, r' => fun h => by
    rw [List.flatMap_cons, escL] at h
    split at h
    · simp at h
    · rename_i hc
      simp only [List.flatMap_nil, List.nil_append, List.cons_append, List.cons.injEq] at h
      exact absurd h.1.symm (by omega)
  | c :: a, [], r, r' => fun h => by
    rw [List.flatMap_cons, escL] at h
    split at h
    · simp at h
    · rename_i hc
      simp only [List.flatMap_nil, List.nil_append, List.cons_append, List.cons.injEq] at h
      exact absurd h.1 (by omega)
  | c :: a, d :: b, r, r' => fun h => by
    rw [List.flatMap_cons, List.flatMap_cons, List.append_assoc, List.append_assoc] at h
    unfold escL at h
    split at h <;> split at h
    · simp only [List.cons_append, List.nil_append, List.cons.injEq] at h
      obtain ⟨_, h1, h2⟩ := h
      obtain ⟨h3, h4⟩ := esc_inj a b r r' h2
      exact ⟨by rw [h1, h3], h4⟩
    · rename_i h1 h2
      simp only [List.cons_append, List.nil_append, List.cons.injEq] at h
      exact absurd h.1.symm (by omega)
    · rename_i h1 h2
      simp only [List.cons_append, List.nil_append, List.cons.injEq] at h
      exact absurd h.1 (by omega)
    · simp only [List.cons_append, List.nil_append, List.cons.injEq] at h
      obtain ⟨h3, h4⟩ := esc_inj a b r r' h.2
      exact ⟨by rw [h.1, h3], h4⟩
theorem qt_inj {s t : Tx} {r r' : List Int} (h : qtL s ++ r = qtL t ++ r') : s = t ∧ r = r' := by
  unfold qtL at h
  simp only [List.cons_append, List.append_assoc, List.nil_append, List.cons.injEq, true_and] at h
  obtain ⟨h1, h2⟩ := esc_inj _ _ _ _ h
  exact ⟨bs_inj h1, h2⟩
theorem tc_inj : ∀ (a b : List Int) (c d : Int) (r r' : List Int), a.all tcB = true → b.all tcB = true → tcB c = false → tcB d = false → a ++ c :: r = b ++ d :: r' → a = b ∧ c = d ∧ r = r'
  | [], [], c, d, r, r' => fun _ _ _ _ h => by simpa using h
  | [], x :: b, c, d, r, r' => fun _ hb hc _ h => by
    simp only [List.nil_append, List.cons_append, List.cons.injEq] at h
    rw [List.all_cons, ← h.1, hc] at hb
    simp at hb
  | x :: a, [], c, d, r, r' => fun ha _ _ hd h => by
    simp only [List.nil_append, List.cons_append, List.cons.injEq] at h
    rw [List.all_cons, h.1, hd] at ha
    simp at ha
  | x :: a, y :: b, c, d, r, r' => fun ha hb hc hd h => by
    simp only [List.cons_append, List.cons.injEq] at h
    rw [List.all_cons, Bool.and_eq_true] at ha hb
    obtain ⟨h1, h2, h3⟩ := tc_inj a b c d r r' ha.2 hb.2 hc hd h.2
    exact ⟨by rw [h.1, h1], h2, h3⟩
theorem at_inj : ∀ (a b : List Pr) (r r' : List Int), a.flatMap atL ++ 62 :: r = b.flatMap atL ++ 62 :: r' → a = b ∧ r = r'
  | [], [], r, r' => fun h => by simpa using h
  | [], p :: b, r, r' => fun h => by
    rw [List.flatMap_cons, atL] at h
    simp at h
  | p :: a, [], r, r' => fun h => by
    rw [List.flatMap_cons, atL] at h
    simp at h
  | (x, y) :: a, (x', y') :: b, r, r' => fun h => by
    rw [List.flatMap_cons, List.flatMap_cons] at h
    unfold atL at h
    simp only [List.cons_append, List.append_assoc, List.cons.injEq, true_and] at h
    obtain ⟨h1, h2⟩ := qt_inj h
    simp only [List.cons.injEq, true_and] at h2
    obtain ⟨h3, h4⟩ := qt_inj h2
    obtain ⟨h5, h6⟩ := at_inj a b r r' h4
    exact ⟨by rw [h1, h3, h5], h6⟩
/-- what stands behind the tag -/
theorem tl_head (k : Tx) (a : List Pr) (r : List Int) : ∃ c r', (if k.size = 0 then [] else 35 :: qtL k) ++ (a.flatMap atL ++ 62 :: r) = c :: r' ∧ tcB c = false := by
  split
  · cases a with
    | nil => exact ⟨62, r, by simp, by decide⟩
    | cons p a => exact ⟨32, _, by rw [List.flatMap_cons, atL]; rfl, by decide⟩
  · exact ⟨35, _, rfl, by decide⟩
theorem ky_inj {k k' : Tx} {a a' : List Pr} {r r' : List Int} (h : (if k.size = 0 then [] else 35 :: qtL k) ++ (a.flatMap atL ++ 62 :: r) = (if k'.size = 0 then [] else 35 :: qtL k') ++ (a'.flatMap atL ++ 62 :: r')) : k = k' ∧ a = a' ∧ r = r' := by
  have hd : ∀ (a : List Pr) (r : List Int), ∃ c r', a.flatMap atL ++ 62 :: r = c :: r' ∧ c ≠ 35 := by
    intro a r
    cases a with
    | nil => exact ⟨62, r, by simp, by decide⟩
    | cons p a => exact ⟨32, _, by rw [List.flatMap_cons, atL]; rfl, by decide⟩
  have fin : ∀ {k k' : Tx}, k = k' → a.flatMap atL ++ 62 :: r = a'.flatMap atL ++ 62 :: r' → k = k' ∧ a = a' ∧ r = r' := fun h1 h2 => by
    obtain ⟨h3, h4⟩ := at_inj _ _ _ _ h2
    exact ⟨h1, h3, h4⟩
  have nil : ∀ {k : Tx}, k.size = 0 → k = ⟨#[]⟩ := fun {k} h => bs_inj (by have := bs_len k; rw [h] at this; rw [List.eq_nil_of_length_eq_zero this]; rfl)
  split at h <;> split at h
  · rename_i h1 h2
    exact fin ((nil h1).trans (nil h2).symm) (by simpa using h)
  · obtain ⟨c, x, e, hc⟩ := hd a r
    rw [List.nil_append, e, List.cons_append] at h
    injection h with h1 h2
    exact absurd h1 hc
  · obtain ⟨c, x, e, hc⟩ := hd a' r'
    rw [List.nil_append, e, List.cons_append] at h
    injection h with h1 h2
    exact absurd h1.symm hc
  · simp only [List.cons_append, List.cons.injEq, true_and] at h
    obtain ⟨h1, h2⟩ := qt_inj h
    exact fin h1 h2
theorem nil_of {k : Tx} (h : k.size = 0) : k = ⟨#[]⟩ := bs_inj (by have := bs_len k; rw [h] at this; rw [List.eq_nil_of_length_eq_zero this]; rfl)
theorem hd_inj {g g' k k' : Tx} {a a' : List Pr} {r r' : List Int} (hg : tagB g = true) (hg' : tagB g' = true) (h : hdL g k a ++ r = hdL g' k' a' ++ r') : g = g' ∧ k = k' ∧ a = a' ∧ r = r' := by
  unfold hdL at h
  simp only [List.cons_append, List.append_assoc, List.nil_append, List.cons.injEq, true_and] at h
  obtain ⟨c, x, e, hc⟩ := tl_head k a r
  obtain ⟨c', x', e', hc'⟩ := tl_head k' a' r'
  have h0 := h
  rw [e, e'] at h
  unfold tagB at hg hg'
  rw [Bool.and_eq_true] at hg hg'
  obtain ⟨h1, h2, h3⟩ := tc_inj _ _ _ _ _ _ hg.2 hg'.2 hc hc' h
  rw [h1, List.append_cancel_left_eq] at h0
  obtain ⟨h4, h5, h6⟩ := ky_inj h0
  exact ⟨bs_inj h1, h4, h5, h6⟩
theorem rn_el {g k x : Tx} {a : List Pr} {ks : List Tr} (h : rn (.mk g k x a ks) = true) (hg : ¬ g.size = 0) : tagB g = true ∧ x = ⟨#[]⟩ := by
  rw [rn] at h
  rw [if_neg hg] at h
  simp only [Bool.and_eq_true, decide_eq_true_eq] at h
  exact ⟨h.1.1.1.1, nil_of h.1.1.2⟩
theorem rn_tx {g k x : Tx} {a : List Pr} {ks : List Tr} (h : rn (.mk g k x a ks) = true) (hg : g.size = 0) : g = ⟨#[]⟩ ∧ k = ⟨#[]⟩ ∧ a = [] ∧ ks = [] := by
  rw [rn] at h
  rw [if_pos hg] at h
  simp only [decide_eq_true_eq] at h
  exact ⟨nil_of hg, nil_of h.1, List.eq_nil_of_length_eq_zero h.2.1, List.eq_nil_of_length_eq_zero h.2.2.1⟩
theorem tag_hd {g : Tx} (h : tagB g = true) (hg : ¬ g.size = 0) : ∃ c l, bs g = c :: l ∧ tcB c = true := by
  have hl := bs_len g
  unfold tagB at h
  rw [Bool.and_eq_true] at h
  match e : bs g with
  | [] => rw [e] at hl; exact absurd hl.symm hg
  | c :: l =>
    rw [e, List.all_cons, Bool.and_eq_true] at h
    exact ⟨c, l, rfl, h.2.1⟩
theorem prt_hd {t : Tr} (h : rn t = true) (r r' : List Int) : prt t ++ r ≠ [60, 47, 62] ++ r' := by
  cases t with
  | mk g k x a ks =>
    intro e
    rw [prt_mk] at e
    split at e
    · unfold qtL at e
      simp at e
    · rename_i hg
      obtain ⟨c, l, e2, hc⟩ := tag_hd (rn_el h hg).1 hg
      unfold hdL at e
      rw [e2] at e
      simp only [List.cons_append, List.nil_append, List.append_assoc, List.cons.injEq, true_and] at e
      rw [e.1] at hc
      exact absurd hc (by decide)
mutual
theorem prt_inj : ∀ (t u : Tr) (r r' : List Int), t.all (fun x => rn x = true) → u.all (fun x => rn x = true) → prt t ++ r = prt u ++ r' → t = u ∧ r = r'
  | .mk g k x a ks, .mk g' k' x' a' ks', r, r' => by
    intro ht hu h
    have hN : rn (.mk g k x a ks) = true := by rw [Tr.all] at ht; exact ht.1
    have hL : allL (fun x => rn x = true) ks := by rw [Tr.all] at ht; exact ht.2
    have hN' : rn (.mk g' k' x' a' ks') = true := by rw [Tr.all] at hu; exact hu.1
    have hL' : allL (fun x => rn x = true) ks' := by rw [Tr.all] at hu; exact hu.2
    rw [prt_mk, prt_mk] at h
    by_cases hg : g.size = 0
    · rw [if_pos hg] at h
      obtain ⟨e1, e2, e3, e4⟩ := rn_tx hN hg
      by_cases hg' : g'.size = 0
      · rw [if_pos hg'] at h
        obtain ⟨f1, f2, f3, f4⟩ := rn_tx hN' hg'
        obtain ⟨h1, h2⟩ := qt_inj h
        exact ⟨by rw [e1, e2, e3, e4, f1, f2, f3, f4, h1], h2⟩
      · rw [if_neg hg'] at h
        unfold qtL hdL at h
        simp at h
    · rw [if_neg hg] at h
      by_cases hg' : g'.size = 0
      · rw [if_pos hg'] at h
        unfold qtL hdL at h
        simp at h
      · rw [if_neg hg'] at h
        obtain ⟨e1, e2⟩ := rn_el hN hg
        obtain ⟨f1, f2⟩ := rn_el hN' hg'
        simp only [List.append_assoc] at h
        obtain ⟨h1, h2, h3, h4⟩ := hd_inj e1 f1 h
        obtain ⟨h5, h6⟩ := prtL_inj ks ks' r r' hL hL' h4
        exact ⟨by rw [h1, h2, h3, h5, e2, f2], h6⟩
theorem prtL_inj : ∀ (l m : List Tr) (r r' : List Int), allL (fun x => rn x = true) l → allL (fun x => rn x = true) m → prtL l ++ ([60, 47, 62] ++ r) = prtL m ++ ([60, 47, 62] ++ r') → l = m ∧ r = r'
  | [], [], r, r' => by intro _ _ h; simpa [prtL] using h
  | [], u :: m, r, r' => by
    intro _ hm h
    rw [allL, all_iff] at hm
    rw [prtL, prtL, List.nil_append, List.append_assoc] at h
    exact absurd h.symm (prt_hd hm.1.1 _ _)
  | t :: l, [], r, r' => by
    intro hl _ h
    rw [allL, all_iff] at hl
    rw [prtL, prtL, List.nil_append, List.append_assoc] at h
    exact absurd h (prt_hd hl.1.1 _ _)
  | t :: l, u :: m, r, r' => by
    intro hl hm h
    rw [allL] at hl hm
    rw [prtL, prtL, List.append_assoc, List.append_assoc] at h
    obtain ⟨h1, h2⟩ := prt_inj t u _ _ hl.1 hm.1 h
    obtain ⟨h3, h4⟩ := prtL_inj l m r r' hl.2 hm.2 h2
    exact ⟨by rw [h1, h3], h4⟩
end
theorem prt_same {t u : Tr} (ht : t.all (fun x => rn x = true)) (hu : u.all (fun x => rn x = true)) (h : prt t = prt u) : t = u := (prt_inj t u [] [] ht hu (by rw [h])).1
end Go.Proofs.Ytolklphenllhpaa
