/-
  What is printed is compiled, what is compiled is printed. No program.
-/
import Derived.Test.YtdlljccabkmfiaaDoorPat
namespace Go.Proofs.YtdlljccabkmfiaaDoor
open Go.PlainAid

theorem flat_jn : ∀ ps : List (List Int), ps ≠ [] → ps.flatMap (fun p => 47 :: p) = 47 :: jnL ps := by
  intro ps
  induction ps with
  | nil => intro h; exact absurd rfl h
  | cons x r ih =>
    intro _
    cases r with
    | nil => simp [jnL]
    | cons y r =>
      rw [List.flatMap_cons, ih (by simp), jnL]
      rfl
theorem splL_jn : ∀ ps : List (List Int), (∀ p ∈ ps, ∀ x ∈ p, x ≠ 47) → ps ≠ [] → splL 47 (jnL ps) = ps := by
  intro ps
  induction ps with
  | nil => intro _ h; exact absurd rfl h
  | cons x r ih =>
    intro h _
    have hx := h x (by simp)
    cases r with
    | nil => rw [jnL, splL_none 47 x hx]
    | cons y r =>
      rw [jnL, splL_mark 47 x _ hx, ih (fun p hp => h p (by simp at hp ⊢; exact Or.inr hp)) (by simp)]
theorem jn_splL (l : List Int) : jnL (splL 47 l) = l := by
  induction hn : l.length using Nat.strongRecOn generalizing l with
  | ind n ih =>
    rcases first_mark 47 l with hm | ⟨p, r, rfl, hm⟩
    · rw [splL_none 47 l hm]; rfl
    · rw [splL_mark 47 p r hm]
      have hr : jnL (splL 47 r) = r := ih r.length (by simp at hn; omega) r rfl
      have hne := splL_ne 47 r
      match hs : splL 47 r with
      | [] => rw [hs] at hne; simp at hne
      | y :: t =>
        rw [hs] at hr
        rw [jnL, hr]

theorem lc_47 {c : Int} (h : lc c = true) : c ≠ 47 ∧ c ≠ 42 ∧ c ≠ 58 ∧ c ≠ 63 := by
  have := of_decide_eq_true h
  omega
theorem tx_all {s : ByteArray} (h : txB s = true) : (1 ≤ s.size ∧ s.size ≤ 16) ∧ ∀ x ∈ bs s, lc x = true := by
  rw [txB, Bool.and_eq_true, List.all_eq_true] at h
  exact ⟨of_decide_eq_true h.1, h.2⟩
/-- a right segment's parts -/
theorem ok_parts {l : List Sg} (h : rgB l = true) {g : Sg} (hg : g ∈ l) : txB g.2 = true ∧ (g.1 = 0 ∨ g.1 = 1 ∨ g.1 = 2 ∨ g.1 = 3) := by
  obtain ⟨k, hk, rfl⟩ := List.getElem_of_mem hg
  have := rg_ok h k hk
  have e : l.getD k default = l[k] := by simp [List.getD, hk]
  rw [okB, e, Bool.and_eq_true, Bool.and_eq_true] at this
  refine ⟨this.2.1, ?_⟩
  have h1 := this.1
  unfold stB at h1
  split at h1
  · omega
  · split at h1
    · omega
    · cases h1
theorem rd_sg (g : Sg) (h1 : txB g.2 = true) (h2 : g.1 = 0 ∨ g.1 = 1 ∨ g.1 = 2 ∨ g.1 = 3) : rdL (sgL g) = g := by
  obtain ⟨g1, g2⟩ := g
  simp only at h1 h2
  obtain ⟨hs, ha⟩ := tx_all h1
  have hst := st_bs g2
  have hl := bs_len g2
  rcases h2 with rfl | rfl | rfl | rfl
  · have e : sgL (0, g2) = bs g2 := rfl
    rw [e]
    rcases hb : bs g2 with _ | ⟨c, r⟩
    · rw [hb] at hl; simp at hl; omega
    · have hc := lc_47 (ha c (by rw [hb]; simp))
      rw [rdL, if_neg hc.2.1, if_neg hc.2.2.1, ← hb, hst]
  · have e : sgL (1, g2) = 58 :: bs g2 := rfl
    rw [e, rdL, if_neg (by decide), if_pos rfl, if_neg ?_, hst]
    intro h
    exact (lc_47 (ha 63 (List.mem_of_getLast? h))).2.2.2 rfl
  · have e : sgL (2, g2) = 58 :: (bs g2 ++ [63]) := rfl
    rw [e, rdL, if_neg (by decide), if_pos rfl, if_pos (by simp), List.dropLast_concat, hst]
  · have e : sgL (3, g2) = 42 :: bs g2 := rfl
    rw [e, rdL, if_pos rfl, hst]
theorem sg_no47 (g : Sg) (h1 : txB g.2 = true) : ∀ x ∈ sgL g, x ≠ 47 := by
  obtain ⟨hs, ha⟩ := tx_all h1
  intro x hx
  unfold sgL at hx
  split at hx
  · simp only [List.mem_cons] at hx
    rcases hx with rfl | hx
    · decide
    · exact (lc_47 (ha x hx)).1
  · split at hx
    · simp only [List.mem_cons, List.mem_append, List.not_mem_nil, or_false] at hx
      rcases hx with rfl | hx | rfl
      · decide
      · exact (lc_47 (ha x hx)).1
      · decide
    · split at hx
      · simp only [List.mem_cons] at hx
        rcases hx with rfl | hx
        · decide
        · exact (lc_47 (ha x hx)).1
      · exact (lc_47 (ha x hx)).1
theorem sg_ne (g : Sg) (h1 : txB g.2 = true) : 1 ≤ (sgL g).length := by
  obtain ⟨hs, ha⟩ := tx_all h1
  have hl := bs_len g.2
  unfold sgL
  split
  · simp
  · split
    · simp
    · split
      · simp
      · omega
theorem sg_inR (g : Sg) : InR (sgL g) := by
  have h := bs_inR g.2
  unfold sgL
  intro x hx
  split at hx
  · simp only [List.mem_cons] at hx
    rcases hx with rfl | hx
    · omega
    · exact h x hx
  · split at hx
    · simp only [List.mem_cons, List.mem_append, List.not_mem_nil, or_false] at hx
      rcases hx with rfl | hx | rfl
      · omega
      · exact h x hx
      · omega
    · split at hx
      · simp only [List.mem_cons] at hx
        rcases hx with rfl | hx
        · omega
        · exact h x hx
      · exact h x hx
theorem pr_inR (l : List Sg) : InR (prL l) := by
  intro x hx
  simp only [prL, List.mem_flatMap, List.mem_cons] at hx
  obtain ⟨g, _, rfl | hx⟩ := hx
  · omega
  · exact sg_inR g x hx
theorem prL_jn (l : List Sg) (h : l ≠ []) : prL l = 47 :: jnL (l.map sgL) := by
  rw [← flat_jn _ (by simpa using h), prL, List.flatMap_map]

/-- what is printed is compiled -/
theorem cm_pr {l : List Sg} (h : rgB l = true) : cmB (prT l) = true ∧ cmL (prT l) = l := by
  by_cases h0 : l = []
  · subst h0
    have e : prT [] = st [47] := by decide +kernel
    rw [e, cmB, cmL, if_pos rfl, if_pos rfl]
    exact ⟨rfl, rfl⟩
  · have e : prT l = st (prL l) := by rw [prT, if_pos h, if_neg h0]
    have hb : bs (prT l) = prL l := by rw [e, bs_st (pr_inR l)]
    have hj := prL_jn l h0
    have hl := rg_len h
    have hs : splL 47 (jnL (l.map sgL)) = l.map sgL := by
      apply splL_jn
      · intro p hp
        rw [List.mem_map] at hp
        obtain ⟨g, hg, rfl⟩ := hp
        exact sg_no47 g (ok_parts h hg).1
      · simpa using h0
    have hI : cmI (prT l) = l := by
      rw [cmI, hb, hj, List.drop_one, List.tail_cons, splNL_all 47 8 _ (by rw [hs, List.length_map]; omega), hs, List.map_map]
      conv => rhs; rw [← List.map_id l]
      apply List.map_congr_left
      intro g hg
      obtain ⟨h1, h2⟩ := ok_parts h hg
      exact rd_sg g h1 h2
    have hne : ¬ prT l = st [47] := by
      intro hc
      have h1 := congrArg bs hc
      rw [hb, hj, show bs (st [47]) = [47] by decide +kernel] at h1
      match l, h0 with
      | g :: r, _ =>
        have hg := sg_ne g (ok_parts h (by simp)).1
        cases r with
        | nil => simp [jnL] at h1; rw [h1] at hg; simp at hg
        | cons y r => simp [jnL] at h1
    have hd : decide ((bs (prT l)).head? = some 47) = true := by rw [hb, hj]; rfl
    rw [cmB, cmL, if_neg hne, if_neg hne, hI, h, hd]
    exact ⟨rfl, rfl⟩
theorem sg_rd (p : List Int) (h : InR p) : sgL (rdL p) = p := by
  cases p with
  | nil => decide +kernel
  | cons c r =>
    have hr : InR r := fun x hx => h x (by simp [hx])
    rw [rdL]
    by_cases h1 : c = 42
    · subst h1
      rw [if_pos rfl]
      show 42 :: bs (st r) = _
      rw [bs_st hr]
    · rw [if_neg h1]
      by_cases h2 : c = 58
      · subst h2
        rw [if_pos rfl]
        by_cases h3 : r.getLast? = some 63
        · rw [if_pos h3]
          show 58 :: (bs (st r.dropLast) ++ [63]) = _
          rw [bs_st (fun x hx => hr x ((List.dropLast_sublist _).mem hx))]
          rw [List.getLast?_eq_some_iff] at h3
          obtain ⟨ys, rfl⟩ := h3
          simp
        · rw [if_neg h3]
          show 58 :: bs (st r) = _
          rw [bs_st hr]
      · rw [if_neg h2]
        show bs (st (c :: r)) = _
        rw [bs_st h]
theorem splL_inR (m : Int) (l : List Int) (h : InR l) : ∀ p ∈ splL m l, InR p := by
  intro p hp
  rw [← splNL_all m (splL m l).length l (by omega)] at hp
  revert p
  generalize (splL m l).length = n
  intro p hp
  induction n generalizing l with
  | zero => simp [splNL] at hp; rw [hp]; exact h
  | succ n ih =>
    rcases first_mark m l with hm | ⟨q, r, rfl, hm⟩
    · rw [splNL_none m _ l hm] at hp; simp at hp; rw [hp]; exact h
    · rw [splNL_mark m n q r hm, List.mem_cons] at hp
      rcases hp with rfl | hp
      · exact fun x hx => h x (by simp [hx])
      · exact ih r (fun x hx => h x (by simp [hx])) hp
/-- what is compiled is printed -/
theorem pr_cm {s : ByteArray} (h : cmB s = true) : prT (cmL s) = s ∧ rgB (cmL s) = true := by
  rw [cmB] at h
  rw [cmL]
  by_cases h0 : s = st [47]
  · rw [if_pos h0, h0]
    exact ⟨by decide +kernel, by decide +kernel⟩
  · rw [if_neg h0] at h ⊢
    rw [if_pos h]
    rw [Bool.and_eq_true] at h
    obtain ⟨h1, h2⟩ := h
    refine ⟨?_, h2⟩
    have h1 := of_decide_eq_true h1
    have hR := bs_inR s
    rcases hb : bs s with _ | ⟨c, r⟩
    · rw [hb] at h1; cases h1
    · rw [hb] at h1 hR
      simp only [List.head?_cons, Option.some.injEq] at h1
      subst h1
      have hr : InR r := fun x hx => hR x (by simp [hx])
      have hl := rg_len h2
      have hI : cmI s = (splNL 47 8 r).map rdL := by rw [cmI, hb]; rfl
      have hsp : splNL 47 8 r = splL 47 r := by
        by_cases hx : (splL 47 r).length ≤ 9
        · exact splNL_all 47 8 r hx
        · have := splNL_more 47 8 r (by omega)
          rw [hI, List.length_map] at hl
          omega
      rw [hsp] at hI
      have hne : cmI s ≠ [] := by
        intro hc
        rw [hI, List.map_eq_nil_iff] at hc
        have := splL_ne 47 r
        rw [hc] at this
        simp at this
      rw [prT, if_pos h2, if_neg hne, prL_jn _ hne, hI, List.map_map]
      have : (splL 47 r).map (sgL ∘ rdL) = splL 47 r := by
        conv => rhs; rw [← List.map_id (splL 47 r)]
        apply List.map_congr_left
        intro p hp
        exact sg_rd p (splL_inR 47 r hr p hp)
      rw [this, jn_splL, ← hb, st_bs]
theorem cm_not {s : ByteArray} (h : cmB s = false) : cmL s = [] := by
  rw [cmB] at h
  rw [cmL]
  by_cases h0 : s = st [47]
  · rw [if_pos h0]
  · rw [if_neg h0] at h ⊢
    rw [h]
    rfl
theorem pr_wrong {l : List Sg} (h : rgB l = false) : prT l = ⟨#[]⟩ := by
  rw [prT, h]; rfl
theorem cm_empty : cmB ⟨#[]⟩ = false := by decide +kernel
theorem pr_right {l : List Sg} (h : rgB l = true) : prT l ≠ ⟨#[]⟩ := by
  intro hc
  have := (cm_pr h).1
  rw [hc, cm_empty] at this
  cases this
theorem pr_inj {l m : List Sg} (hl : rgB l = true) (hm : rgB m = true) : prT l = prT m ↔ l = m := by
  constructor
  · intro h
    rw [← (cm_pr hl).2, h, (cm_pr hm).2]
  · intro h; rw [h]
/-- any text -/
theorem text_law (s : ByteArray) : cmB s = (decide (prT (cmL s) = s) && decide (s ≠ ⟨#[]⟩)) := by
  by_cases h : cmB s = true
  · rw [h, decide_eq_true (pr_cm h).1, Bool.true_and, eq_comm, decide_eq_true_eq]
    rintro rfl
    rw [cm_empty] at h
    cases h
  · have h : cmB s = false := by simpa using h
    rw [h, cm_not h]
    have hne : ¬ prT [] = s := by
      rintro rfl
      rw [(cm_pr (l := []) (by decide +kernel)).1] at h
      cases h
    rw [decide_eq_false hne]
    rfl
end Go.Proofs.YtdlljccabkmfiaaDoor
