/-
  A tree of segments: where a pattern stands in it; what a path comes by, in which order. No program.
-/
import Derived.Test.YtnnmbpghkflepaaGreatDoorPat
import Derived.Test.YtnnmbpghkflepaaGreatDoorOrd
namespace Go.Proofs.YtnnmbpghkflepaaGreatDoor

abbrev Key := List (Option ByteArray)
/-- the node that a pattern ends at, and in which of its rows -/
def home : List Sg → Key × Nat
  | [] => ([], 4)
  | g :: r => if g.1 = 2 then ([], 2) else if g.1 = 3 then ([], 3) else ((if g.1 = 1 then none else some g.2) :: (home r).1, (home r).2)
/-- optional ones and rests stand last -/
def wfS : List Sg → Prop
  | [] => True
  | g :: r => ((g.1 = 0 ∨ g.1 = 1) ∨ ((g.1 = 2 ∨ g.1 = 3) ∧ r = [])) ∧ wfS r
theorem wf_of {l : List Sg} (h : ∀ j, j < l.length → stB (l.getD j default).1 (decide (j + 1 = l.length)) = true) : wfS l := by
  induction l with
  | nil => trivial
  | cons g r ih =>
    refine ⟨?_, ih fun j hj => ?_⟩
    · have h0 : stB g.1 (decide (0 + 1 = (g :: r).length)) = true := h 0 (by simp)
      rw [stB] at h0
      by_cases h1 : g.1 = 0 ∨ g.1 = 1
      · exact Or.inl h1
      · rw [if_neg h1] at h0
        by_cases h2 : g.1 = 2 ∨ g.1 = 3
        · rw [if_pos h2] at h0
          have := of_decide_eq_true h0
          simp at this
          exact Or.inr ⟨h2, this⟩
        · rw [if_neg h2] at h0
          cases h0
    · have := h (j + 1) (by simp; omega)
      simpa using this
theorem wf_rg {l : List Sg} (h : rgB l = true) : wfS l := wf_of fun j hj => by
  have := rg_ok h j hj
  rw [okB, Bool.and_eq_true] at this
  exact this.1
/-- does a path come to it? -/
def adm : Key → Nat → List ByteArray → Bool
  | [], i, p => if i = 2 then decide (p.length ≤ 1) else if i = 3 then true else decide (p = [])
  | _ :: _, _, [] => false
  | none :: ks, i, _ :: r => adm ks i r
  | some t :: ks, i, s :: r => decide (t = s) && adm ks i r
theorem home_slot (l : List Sg) : (home l).2 = 2 ∨ (home l).2 = 3 ∨ (home l).2 = 4 := by
  induction l with
  | nil => right; right; rfl
  | cons g r ih =>
    rw [home]
    split
    · left; rfl
    · split
      · right; left; rfl
      · exact ih
theorem adm_is {l : List Sg} (h : wfS l) (p : List ByteArray) : (mtR l p).isSome = adm (home l).1 (home l).2 p := by
  induction l generalizing p with
  | nil => cases p <;> simp [mtR, home, adm]
  | cons g r ih =>
    obtain ⟨hg, hr⟩ := h
    rcases hg with hg | ⟨hg, rfl⟩
    · have n2 : ¬ g.1 = 2 := by omega
      have n3 : ¬ g.1 = 3 := by omega
      rw [mtR, home, if_neg n2, if_neg n3, tkN, if_neg n2, if_neg n3]
      cases p with
      | nil => simp [adm]
      | cons s q =>
        rw [if_neg (by simp)]
        rcases hg with h0 | h1
        · have n1 : ¬ g.1 = 1 := by omega
          by_cases hs : s = g.2
          · rw [if_neg (by simp [hs])]
            simp [n1, adm, hs, ih hr]
          · rw [if_pos ⟨h0, by simpa using hs⟩]
            simp [n1, adm, show ¬ g.2 = s from fun h => hs h.symm]
        · rw [if_neg (by omega)]
          simp [h1, adm, ih hr]
    · rcases hg with h2 | h3
      · simp only [mtR, home, if_pos h2, tkN, adm]
        cases p with
        | nil => simp
        | cons s q => cases q <;> simp
      · have n2 : ¬ g.1 = 2 := by omega
        simp only [mtR, home, if_neg n2, if_pos h3, tkN, adm]
        simp

/-- the Kinds of what stands there -/
def knH (ks : Key) (i : Nat) : List Int := ks.map (fun o => if o.isNone then 1 else 0) ++ (if i = 2 then [2] else if i = 3 then [3] else [])
theorem kn_is {l : List Sg} (h : wfS l) : l.map Prod.fst = knH (home l).1 (home l).2 := by
  induction l with
  | nil => rfl
  | cons g r ih =>
    obtain ⟨hg, hr⟩ := h
    rcases hg with hg | ⟨hg, rfl⟩
    · have n2 : ¬ g.1 = 2 := by omega
      have n3 : ¬ g.1 = 3 := by omega
      rw [home, if_neg n2, if_neg n3, List.map_cons, ih hr]
      rcases hg with h0 | h1
      · have n1 : ¬ g.1 = 1 := by omega
        simp [knH, h0]
      · simp [knH, h1]
    · rcases hg with h2 | h3
      · simp [home, h2, knH]
      · simp [home, h3, knH]
theorem lx_pre (a b b' : List Int) : lx cI (a ++ b) (a ++ b') = lx cI b b' := by
  induction a with
  | nil => rfl
  | cons x a ih => rw [List.cons_append, List.cons_append, lx_cons, if_neg (by rw [tcI.refl]; simp), ih]
/-- one of lesser Kinds goes first -/
theorem cP_kn {l l' : List Sg} (h : wfS l) (h' : wfS l') {key ks ks' : Key} {i i' : Nat} (e : home l = (key ++ ks, i)) (e' : home l' = (key ++ ks', i')) (hk : lx cI (knH ks i) (knH ks' i') < 0) : cP l l' < 0 := by
  have h1 : lx cI (l.map Prod.fst) (l'.map Prod.fst) < 0 := by
    rw [kn_is h, kn_is h', e, e']
    have s1 : ∀ (q : Key) (j : Nat), knH (key ++ q) j = key.map (fun o => if o.isNone then (1 : Int) else 0) ++ knH q j := by
      intro q j
      simp [knH]
    rw [s1, s1, lx_pre]
    exact hk
  rw [cP, if_pos (by omega)]
  exact h1
theorem lx_lt {x y : Int} (h : x < y) (a b : List Int) : lx cI (x :: a) (y :: b) < 0 := by
  have := cI_cases x y
  have e : cI x y = -1 := by omega
  rw [lx_cons, e]
  simp

section
variable {α : Type} (f : α → List Sg)
/-- what stands in a row of a node -/
def slot (es : List α) (key : Key) (i : Nat) : List α := es.filter (fun e => decide (home (f e) = (key, i)))
/-- what the rest of a path comes by from a node on -/
def wlk (es : List α) : Key → List ByteArray → List α
  | key, [] => slot f es key 2 ++ (slot f es key 3 ++ slot f es key 4)
  | key, s :: r => wlk es (key ++ [some s]) r ++ (wlk es (key ++ [none]) r ++ ((if r = [] then slot f es key 2 else []) ++ slot f es key 3))
theorem mem_slot {es : List α} {key : Key} {i : Nat} {e : α} : e ∈ slot f es key i ↔ e ∈ es ∧ home (f e) = (key, i) := by simp [slot]
theorem mem_wlk {es : List α} {p : List ByteArray} {key : Key} {e : α} : e ∈ wlk f es key p ↔ e ∈ es ∧ ∃ ks, home (f e) = (key ++ ks, (home (f e)).2) ∧ adm ks (home (f e)).2 p = true := by
  induction p generalizing key with
  | nil =>
    rw [wlk]
    simp only [List.mem_append, mem_slot]
    constructor
    · rintro (⟨h, e1⟩ | ⟨h, e1⟩ | ⟨h, e1⟩) <;> exact ⟨h, [], by rw [e1]; simp, by rw [e1]; simp [adm]⟩
    · rintro ⟨h, ks, e1, e2⟩
      cases ks with
      | cons k ks => simp [adm] at e2
      | nil =>
        rw [List.append_nil] at e1
        rcases home_slot (f e) with e3 | e3 | e3 <;> rw [e3] at e1
        · exact Or.inl ⟨h, e1⟩
        · exact Or.inr (Or.inl ⟨h, e1⟩)
        · exact Or.inr (Or.inr ⟨h, e1⟩)
  | cons s r ih =>
    rw [wlk]
    simp only [List.mem_append, ih]
    constructor
    · rintro (⟨h, ks, e1, e2⟩ | ⟨h, ks, e1, e2⟩ | h)
      · exact ⟨h, some s :: ks, by rw [List.append_assoc] at e1; exact e1, by simpa [adm] using e2⟩
      · exact ⟨h, none :: ks, by rw [List.append_assoc] at e1; exact e1, by simpa [adm] using e2⟩
      · rcases h with h | h
        · by_cases hr : r = []
          · rw [if_pos hr, mem_slot] at h
            exact ⟨h.1, [], by rw [h.2]; simp, by rw [h.2]; simp [adm, hr]⟩
          · rw [if_neg hr] at h
            cases h
        · rw [mem_slot] at h
          exact ⟨h.1, [], by rw [h.2]; simp, by rw [h.2]; simp [adm]⟩
    · rintro ⟨h, ks, e1, e2⟩
      cases ks with
      | nil =>
        rw [List.append_nil] at e1
        rcases home_slot (f e) with e3 | e3 | e3 <;> rw [e3] at e1 e2
        · simp [adm] at e2
          rw [if_pos e2]
          exact Or.inr (Or.inr (Or.inl ((mem_slot f).2 ⟨h, e1⟩)))
        · exact Or.inr (Or.inr (Or.inr ((mem_slot f).2 ⟨h, e1⟩)))
        · simp [adm] at e2
      | cons k ks =>
        cases k with
        | none => exact Or.inr (Or.inl ⟨h, ks, by rw [List.append_assoc]; exact e1, by simpa [adm] using e2⟩)
        | some t =>
          simp [adm] at e2
          obtain ⟨rfl, e2⟩ := e2
          exact Or.inl ⟨h, ks, by rw [List.append_assoc]; exact e1, e2⟩
theorem wlk_none {es : List α} {p : List ByteArray} {key : Key} (h : ∀ e ∈ es, ¬ key <+: (home (f e)).1) : wlk f es key p = [] := by
  rw [List.eq_nil_iff_forall_not_mem]
  intro e he
  rw [mem_wlk] at he
  obtain ⟨he, ks, e1, _⟩ := he
  exact h e he ⟨ks, by rw [e1]⟩
/-- a row's order goes on in what is told -/
theorem wlk_step {es : List α} {R : α → α → Prop} (hs : es.Pairwise R) (hR : ∀ a b, R a b → cP (f a) (f b) ≤ 0) (hw : ∀ e ∈ es, wfS (f e)) (key : Key) (p : List ByteArray) (ih : ∀ k s r, p = s :: r → (wlk f es k r).Pairwise R) : (wlk f es key p).Pairwise R := by
  have ss : ∀ key i, (slot f es key i).Pairwise R := fun key i => hs.sublist List.filter_sublist
  have tot : ∀ a ∈ es, ∀ b ∈ es, cP (f a) (f b) < 0 → R a b := by
    intro a ha b hb hc
    obtain ⟨i, hi, rfl⟩ := List.getElem_of_mem ha
    obtain ⟨j, hj, rfl⟩ := List.getElem_of_mem hb
    rw [List.pairwise_iff_getElem] at hs
    rcases Nat.lt_trichotomy i j with h | h | h
    · exact hs i j hi hj h
    · subst h
      rw [tcP.refl] at hc
      omega
    · have h1 := hR _ _ (hs j i hj hi h)
      have h2 := tcP.anti (f es[i]) (f es[j])
      omega
  have app : ∀ (a b : List α), a.Pairwise R → b.Pairwise R → (∀ x ∈ a, ∀ y ∈ b, x ∈ es ∧ y ∈ es ∧ cP (f x) (f y) < 0) → (a ++ b).Pairwise R := by
    intro a b ha hb h
    rw [List.pairwise_append]
    exact ⟨ha, hb, fun x hx y hy => by obtain ⟨h1, h2, h3⟩ := h x hx y hy; exact tot x h1 y h2 h3⟩
  have go : ∀ {x y : α} {ks ks' : Key} {i i' : Nat}, x ∈ es → y ∈ es → home (f x) = (key ++ ks, i) → home (f y) = (key ++ ks', i') → lx cI (knH ks i) (knH ks' i') < 0 → x ∈ es ∧ y ∈ es ∧ cP (f x) (f y) < 0 :=
    fun hx hy e e' h => ⟨hx, hy, cP_kn (hw _ hx) (hw _ hy) e e' h⟩
  have s2 : ∀ {x : α} {i : Nat}, x ∈ slot f es key i → x ∈ es ∧ home (f x) = (key ++ [], i) := by
    intro x i h
    rw [List.append_nil]
    exact (mem_slot f).1 h
  cases p with
  | nil =>
    rw [wlk]
    refine app _ _ (ss _ _) (app _ _ (ss _ _) (ss _ _) ?_) ?_
    · intro x hx y hy
      exact go (s2 hx).1 (s2 hy).1 (s2 hx).2 (s2 hy).2 (by show lx cI [3] [] < 0; rw [lx_cons_nil]; decide)
    · intro x hx y hy
      rw [List.mem_append] at hy
      rcases hy with hy | hy
      · exact go (s2 hx).1 (s2 hy).1 (s2 hx).2 (s2 hy).2 (lx_lt (by decide) _ _)
      · exact go (s2 hx).1 (s2 hy).1 (s2 hx).2 (s2 hy).2 (by show lx cI [2] [] < 0; rw [lx_cons_nil]; decide)
  | cons s r =>
    have w2 : ∀ {x : α} (o : Option ByteArray), x ∈ wlk f es (key ++ [o]) r → x ∈ es ∧ ∃ ks i, home (f x) = (key ++ o :: ks, i) := by
      intro x o h
      rw [mem_wlk] at h
      obtain ⟨h, ks, e1, _⟩ := h
      rw [List.append_assoc] at e1
      exact ⟨h, ks, _, e1⟩
    have s3 : ∀ {y : α}, y ∈ (if r = [] then slot f es key 2 else []) ++ slot f es key 3 → y ∈ es ∧ ∃ i, (i = 2 ∨ i = 3) ∧ home (f y) = (key ++ [], i) := by
      intro y h
      rw [List.mem_append] at h
      rcases h with h | h
      · split at h
        · exact ⟨(s2 h).1, 2, Or.inl rfl, (s2 h).2⟩
        · cases h
      · exact ⟨(s2 h).1, 3, Or.inr rfl, (s2 h).2⟩
    rw [wlk]
    refine app _ _ (ih _ s r rfl) (app _ _ (ih _ s r rfl) (app _ _ ?_ (ss _ _) ?_) ?_) ?_
    · split
      · exact ss _ _
      · exact List.Pairwise.nil
    · intro x hx y hy
      split at hx
      · exact go (s2 hx).1 (s2 hy).1 (s2 hx).2 (s2 hy).2 (lx_lt (by decide) _ _)
      · cases hx
    · intro x hx y hy
      obtain ⟨h1, ks, i, e1⟩ := w2 _ hx
      obtain ⟨h2, j, hj, e2⟩ := s3 hy
      refine go h1 h2 e1 e2 ?_
      rcases hj with rfl | rfl <;> exact lx_lt (by decide) _ _
    · intro x hx y hy
      obtain ⟨h1, ks, i, e1⟩ := w2 _ hx
      rw [List.mem_append] at hy
      rcases hy with hy | hy
      · obtain ⟨h2, ks', i', e2⟩ := w2 _ hy
        exact go h1 h2 e1 e2 (lx_lt (by simp) _ _)
      · obtain ⟨h2, j, hj, e2⟩ := s3 hy
        refine go h1 h2 e1 e2 ?_
        rcases hj with rfl | rfl <;> exact lx_lt (by simp) _ _
theorem wlk_sorted {es : List α} {R : α → α → Prop} (hs : es.Pairwise R) (hR : ∀ a b, R a b → cP (f a) (f b) ≤ 0) (hw : ∀ e ∈ es, wfS (f e)) (key : Key) (p : List ByteArray) : (wlk f es key p).Pairwise R := by
  induction p generalizing key with
  | nil => exact wlk_step f hs hR hw key [] (fun k s r h => by cases h)
  | cons s r ih => exact wlk_step f hs hR hw key (s :: r) (fun k s' r' h => by cases h; exact ih k)
/-- two sorted rows of the same are the same -/
theorem same_sorted {R : α → α → Prop} (hi : ∀ a b, R a b → ¬ R b a) : ∀ {l m : List α}, l.Pairwise R → m.Pairwise R → (∀ x, x ∈ l ↔ x ∈ m) → l = m := by
  intro l
  induction l with
  | nil =>
    intro m _ _ h
    symm
    rw [List.eq_nil_iff_forall_not_mem]
    intro x hx
    exact absurd ((h x).2 hx) (by simp)
  | cons a l ih =>
    intro m h1 h2 h
    cases m with
    | nil => exact absurd ((h a).1 (by simp)) (by simp)
    | cons b m =>
      rw [List.pairwise_cons] at h1 h2
      have ir : ∀ a, ¬ R a a := fun a h => hi a a h h
      have e : a = b := by
        have ha := (h a).1 (by simp)
        have hb := (h b).2 (by simp)
        rw [List.mem_cons] at ha hb
        rcases ha with ha | ha
        · exact ha
        · rcases hb with hb | hb
          · exact hb.symm
          · exact absurd (h1.1 b hb) (hi _ _ (h2.1 a ha))
      subst e
      rw [ih h1.2 h2.2 fun x => ?_]
      have := h x
      rw [List.mem_cons, List.mem_cons] at this
      constructor
      · intro hx
        rcases this.1 (Or.inr hx) with e | hm
        · subst e
          exact absurd (h1.1 _ hx) (ir _)
        · exact hm
      · intro hx
        rcases this.2 (Or.inr hx) with e | hm
        · subst e
          exact absurd (h2.1 _ hx) (ir _)
        · exact hm
/-- WHAT THE TREE TELLS: those of a sorted row that have the path, in the row's order -/
theorem wlk_is {es : List α} {R : α → α → Prop} (hs : es.Pairwise R) (hi : ∀ a b, R a b → ¬ R b a) (hR : ∀ a b, R a b → cP (f a) (f b) ≤ 0) (hw : ∀ e ∈ es, rgB (f e) = true) (p : List ByteArray) :
    wlk f es [] p = es.filter (fun e => mtB (f e) p) := by
  refine same_sorted hi (wlk_sorted f hs hR (fun e he => wf_rg (hw e he)) [] p) (hs.sublist List.filter_sublist) fun x => ?_
  rw [mem_wlk, List.mem_filter]
  refine and_congr_right fun hx => ?_
  rw [mtB, mtO, if_pos (hw x hx), adm_is (wf_rg (hw x hx))]
  constructor
  · rintro ⟨ks, e1, e2⟩
    rw [List.nil_append] at e1
    rw [show (home (f x)).1 = ks by rw [e1]]
    exact e2
  · intro h
    exact ⟨(home (f x)).1, rfl, h⟩
end
end Go.Proofs.YtnnmbpghkflepaaGreatDoor
