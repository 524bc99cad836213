/-
  The reference's Match, round by round. No program.
-/
import Derived.Test.YtgiepgbjkkhniaaMtc
namespace Go.Proofs.Ytgiepgbjkkhniaa
open Go.PlainAid

theorem ok_parts {l : List Sg} (h : rgB l = true) {g : Sg} (hg : g ∈ l) : txB g.2 = true ∧ (g.1 = 0 ∨ g.1 = 1 ∨ g.1 = 2 ∨ g.1 = 3) := by
  obtain ⟨k, hk, rfl⟩ := List.getElem_of_mem hg
  have := rg_ok h k hk
  have e : l.getD k default = l[k] := by simp [List.getD, hk]
  rw [okB, e, Bool.and_eq_true, Bool.and_eq_true] at this
  refine ⟨this.2.1, ?_⟩
  have h1 := this.1
  unfold stB at h1
  split at h1
  · omega
  · split at h1
    · omega
    · cases h1
theorem rg_pre {L : List Sg} (h : rgB L = true) (i : Nat) (hi : i + 1 < L.length) : (L.getD i default).1 = 0 ∨ (L.getD i default).1 = 1 := by
  have := rg_ok h i (by omega)
  rw [okB, Bool.and_eq_true] at this
  have h1 := this.1
  rw [decide_eq_false (by omega)] at h1
  unfold stB at h1
  split at h1
  · assumption
  · split at h1 <;> cases h1
/-- what the reference's Match has come to -/
def RmMid (l : List Sg) (path : List ByteArray) (k : Nat) (ps : List Pr) : Prop :=
  k ≤ path.length ∧ mtR l path = (mtR (l.drop k) (path.drop k)).map (ps ++ ·) ∧ ps.length ≤ k

theorem rm_cases {l : List Sg} {path : List ByteArray} {k : Nat} {ps : List Pr} (hr : rgB l = true) (hk : k < l.length) (hm : RmMid l path k ps) (s1 : Int) (s2 : ByteArray) (hg : l.getD k default = (s1, s2)) :
    (s1 = 3 ∧ mtR l path = some (ps ++ [(s2, jnT (path.drop k))])) ∨ (s1 = 2 ∧ k = path.length ∧ mtR l path = some ps) ∨ ((s1 = 0 ∨ s1 = 1) ∧ k = path.length ∧ mtR l path = none)
    ∨ (s1 = 0 ∧ k < path.length ∧ ¬ path.getD k default = s2 ∧ mtR l path = none) ∨ (s1 = 0 ∧ k < path.length ∧ path.getD k default = s2 ∧ RmMid l path (k + 1) ps)
    ∨ ((s1 = 1 ∨ s1 = 2) ∧ k < path.length ∧ RmMid l path (k + 1) (ps ++ [(s2, path.getD k default)])) := by
  obtain ⟨h1, h2, h3⟩ := hm
  have hkind := (ok_parts hr (getD_mem l k hk)).2
  have hlast : s1 = 2 ∨ s1 = 3 → l.drop (k + 1) = [] := by
    intro hs
    by_cases e : k + 1 < l.length
    · have := rg_pre hr k e
      rw [hg] at this
      simp only at this
      omega
    · exact List.drop_eq_nil_of_le (by omega)
  rw [hg] at hkind
  simp only at hkind
  have hd : l.drop k = (s1, s2) :: l.drop (k + 1) := by rw [drop_get l k hk, hg]
  have h2' := h2
  rw [hd, mtR] at h2'
  have step : k < path.length → (path.drop k).drop 1 = path.drop (k + 1) ∧ (path.drop k).take 1 = [path.getD k default] ∧ path.drop k ≠ [] ∧ (path.drop k).getD 0 default = path.getD k default := by
    intro hlt
    rw [drop_get path k hlt]
    exact ⟨rfl, rfl, by simp, rfl⟩
  by_cases hlt : k < path.length
  · obtain ⟨e1, e2, e3, e4⟩ := step hlt
    rcases hkind with rfl | rfl | rfl | rfl
    · by_cases e : path.getD k default = s2
      · refine Or.inr (Or.inr (Or.inr (Or.inr (Or.inl ⟨rfl, hlt, e, by omega, ?_, by omega⟩))))
        rw [show tkN ((0 : Int), s2) (path.drop k) = some 1 by
          rw [tkN, if_neg (by simp), if_neg (by simp), if_neg e3, if_neg (by simp only [e4]; exact fun h => h.2 e)]] at h2'
        rw [h2']
        simp only [e1, e2, Option.map_map]
        congr 1
      · refine Or.inr (Or.inr (Or.inr (Or.inl ⟨rfl, hlt, e, ?_⟩)))
        rw [show tkN ((0 : Int), s2) (path.drop k) = none by
          rw [tkN, if_neg (by simp), if_neg (by simp), if_neg e3, if_pos ⟨rfl, by rw [e4]; exact e⟩]] at h2'
        rw [h2']
        rfl
    · refine Or.inr (Or.inr (Or.inr (Or.inr (Or.inr ⟨Or.inl rfl, hlt, by omega, ?_, by rw [List.length_append]; simp; omega⟩))))
      rw [show tkN ((1 : Int), s2) (path.drop k) = some 1 by
        rw [tkN, if_neg (by simp), if_neg (by simp), if_neg e3, if_neg (by simp)]] at h2'
      rw [h2']
      simp only [e1, e2, Option.map_map]
      congr 1
      funext z
      show ps ++ (tlP (1, s2) [path.getD k default] ++ z) = ps ++ [(s2, path.getD k default)] ++ z
      rw [List.append_assoc]
      rfl
    · refine Or.inr (Or.inr (Or.inr (Or.inr (Or.inr ⟨Or.inr rfl, hlt, by omega, ?_, by rw [List.length_append]; simp; omega⟩))))
      rw [show tkN ((2 : Int), s2) (path.drop k) = some 1 by
        rw [tkN, if_pos rfl, List.length_drop, Nat.min_eq_right (by omega)]] at h2'
      rw [h2']
      simp only [e1, e2, Option.map_map]
      congr 1
      funext z
      show ps ++ (tlP (2, s2) [path.getD k default] ++ z) = ps ++ [(s2, path.getD k default)] ++ z
      rw [List.append_assoc]
      rfl
    · refine Or.inl ⟨rfl, ?_⟩
      rw [show tkN ((3 : Int), s2) (path.drop k) = some (path.drop k).length by rw [tkN, if_neg (by simp), if_pos rfl]] at h2'
      rw [h2', hlast (Or.inr rfl)]
      simp only [List.drop_length, List.take_length]
      rfl
  · have ek : k = path.length := by omega
    have e0 : path.drop k = [] := List.drop_eq_nil_of_le (by omega)
    rcases hkind with rfl | rfl | rfl | rfl
    · refine Or.inr (Or.inr (Or.inl ⟨Or.inl rfl, ek, ?_⟩))
      rw [e0] at h2'
      exact h2'
    · refine Or.inr (Or.inr (Or.inl ⟨Or.inr rfl, ek, ?_⟩))
      rw [e0] at h2'
      exact h2'
    · refine Or.inr (Or.inl ⟨rfl, ek, ?_⟩)
      rw [e0, hlast (Or.inl rfl)] at h2'
      rw [h2']
      show some (ps ++ ([] ++ [])) = some ps
      simp
    · refine Or.inl ⟨rfl, ?_⟩
      rw [e0, hlast (Or.inr rfl)] at h2'
      rw [h2', e0]
      rfl
theorem rm_end {l : List Sg} {path : List ByteArray} {ps : List Pr} (hm : RmMid l path l.length ps) : mtR l path = if path.length = l.length then some ps else none := by
  obtain ⟨h1, h2, _⟩ := hm
  rw [h2, List.drop_length, mtR]
  by_cases e : path.length = l.length
  · rw [if_pos e, if_pos (List.drop_eq_nil_of_le (by omega))]
    simp
  · rw [if_neg e, if_neg]
    · rfl
    · intro h
      have := congrArg List.length h
      rw [List.length_drop] at this
      simp at this
      omega
theorem jnL_snoc : ∀ (a : List (List Int)) (x : List Int), a ≠ [] → jnL (a ++ [x]) = jnL a ++ 47 :: x := by
  intro a
  induction a with
  | nil => intro x h; exact absurd rfl h
  | cons y r ih =>
    intro x _
    cases r with
    | nil => rfl
    | cons z r' =>
      have := ih x (by simp)
      show y ++ 47 :: jnL (z :: r' ++ [x]) = (y ++ 47 :: jnL (z :: r')) ++ 47 :: x
      rw [this]
      simp
theorem jnL_inR : ∀ (a : List (List Int)), (∀ x ∈ a, InR x) → InR (jnL a) := by
  intro a
  induction a with
  | nil => intro _ x hx; cases hx
  | cons y r ih =>
    intro h
    cases r with
    | nil => exact h y (by simp)
    | cons z r' =>
      have h1 := h y (by simp)
      have h2 := ih (fun x hx => h x (by simp only [List.mem_cons] at hx ⊢; exact Or.inr hx))
      intro c hc
      have hc : c ∈ y ++ 47 :: jnL (z :: r') := hc
      rw [List.mem_append, List.mem_cons] at hc
      rcases hc with hc | rfl | hc
      · exact h1 c hc
      · omega
      · exact h2 c hc
theorem jn_inR (l : List ByteArray) : InR (jnL (l.map (fun s => encL (bs s)))) := by
  refine jnL_inR _ (fun x hx => ?_)
  rw [List.mem_map] at hx
  obtain ⟨s, _, rfl⟩ := hx
  exact encL_inR (bs_inR s)
theorem jn_one (x : ByteArray) : jnT [x] = encS x := rfl
theorem jn_snoc (a : List ByteArray) (x : ByteArray) (h : a ≠ []) : jnT (a ++ [x]) = jnT a ++ ⟨#[47]⟩ ++ encS x := by
  apply bs_inj
  rw [bs_append, bs_append, jnT, jnT, encS, bs_st (jn_inR _), bs_st (jn_inR _), bs_st (encL_inR (bs_inR x)), List.map_append, List.map_cons, List.map_nil, jnL_snoc _ _ (by simpa using h), List.append_assoc]
  rfl
theorem jn_size (a : List ByteArray) (B : Nat) (h : ∀ s ∈ a, s.size ≤ B) : (jnT a).size ≤ a.length * (3 * B + 1) := by
  rw [jnT, st_size]
  have := jnL_len (3 * B) (a.map (fun s => encL (bs s))) (by
    intro x hx
    rw [List.mem_map] at hx
    obtain ⟨s, hs, rfl⟩ := hx
    have h1 := encL_len (bs s)
    rw [bs_len] at h1
    have := h s hs
    omega)
  rwa [List.length_map] at this
end Go.Proofs.Ytgiepgbjkkhniaa
