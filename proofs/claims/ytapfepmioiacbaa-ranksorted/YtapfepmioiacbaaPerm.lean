/-
  Places of patterns: there is one sorted row; turned rows, rows with one more. No program.
-/
import Derived.Test.YtapfepmioiacbaaSrt
namespace Go.Proofs.Ytapfepmioiacbaa

/-- two rows of the same that rise by one order are one -/
theorem uniq {α : Type} {c : α → α → Int} (hc : TC c) : ∀ {a b : List α}, a.Perm b → a.Pairwise (fun x y => c x y ≤ 0) → b.Pairwise (fun x y => c x y ≤ 0) → a = b := by
  intro a
  induction a with
  | nil => intro b hp _ _; exact (List.nil_perm.1 hp).symm
  | cons x a ih =>
    intro b hp ha hb
    cases b with
    | nil => exact absurd hp.symm (by simp)
    | cons y b =>
      have hxy : x = y := by
        have h1 : x ∈ y :: b := hp.mem_iff.1 (by simp)
        have h2 : y ∈ x :: a := hp.mem_iff.2 (by simp)
        rw [List.mem_cons] at h1 h2
        rcases h1 with h1 | h1
        · exact h1
        · rcases h2 with h2 | h2
          · exact h2.symm
          · have e1 := (List.pairwise_cons.1 hb).1 x h1
            have e2 := (List.pairwise_cons.1 ha).1 y h2
            have e3 := hc.anti x y
            exact (hc.zero x y).1 (by omega)
      subst hxy
      rw [ih (List.perm_cons x |>.1 hp) (List.pairwise_cons.1 ha).2 (List.pairwise_cons.1 hb).2]

section
variable {ls : List (List Sg)} {ps : List Nat}
theorem Places.lt' (h : Places ls ps) {x : Nat} (hx : x ∈ ps) : x < ls.length := by
  have := h.1.mem_iff.1 hx
  simpa using this
/-- the places of a row are one -/
theorem places_uniq {qs : List Nat} (hp : ps.Perm qs) (h1 : ps.Pairwise (fun i k => cW ls i k < 0)) (h2 : qs.Pairwise (fun i k => cW ls i k < 0)) : ps = qs :=
  uniq (tcW ls) hp (h1.imp fun h => by omega) (h2.imp fun h => by omega)
/-- with one more behind: without it, the others as they were -/
theorem places_more {l : List Sg} {qs : List Nat} (h : Places ls ps) (hq : Places (ls ++ [l]) qs) : qs.filter (fun x => decide (x ≠ ls.length)) = ps := by
  refine places_uniq (ls := ls) ?_ ?_ h.2
  · refine (hq.1.filter _).trans ?_
    have e : (List.range (ls ++ [l]).length).filter (fun x => decide (x ≠ ls.length)) = List.range ls.length := by
      rw [List.length_append, List.length_singleton, List.range_succ, List.filter_append]
      have e1 : (List.range ls.length).filter (fun x => decide (x ≠ ls.length)) = List.range ls.length := by
        rw [List.filter_eq_self]
        intro x hx
        have : x < ls.length := by simpa using hx
        exact decide_eq_true (by omega)
      rw [e1]
      simp
    rw [e]
    exact h.1.symm
  · have h2 := List.Pairwise.filter (fun x => decide (x ≠ ls.length)) hq.2
    refine List.Pairwise.imp_of_mem ?_ h2
    intro x y hx hy hxy
    have hlt : ∀ z, z ∈ qs.filter (fun x => decide (x ≠ ls.length)) → z < ls.length := by
      intro z hz
      rw [List.mem_filter] at hz
      have a := hq.lt' hz.1
      have b := of_decide_eq_true hz.2
      rw [List.length_append, List.length_singleton] at a
      omega
    have ex : ∀ z, z < ls.length → (ls ++ [l]).getD z default = ls.getD z default := by
      intro z hz
      simp only [List.getD]
      rw [List.getElem?_append_left hz]
    unfold cW at hxy ⊢
    rw [ex x (hlt x hx), ex y (hlt y hy)] at hxy
    exact hxy
/-- the patterns along the row rise -/
theorem places_rise (h : ps.Pairwise (fun i k => cW ls i k < 0)) : (ps.map (fun i => ls.getD i default)).Pairwise (fun x y => cP x y ≤ 0) := by
  rw [List.pairwise_map]
  refine h.imp ?_
  intro i k hik
  unfold cW at hik
  have := tcI.one (i : Int) (k : Int)
  split at hik <;> omega
theorem places_all (h : Places ls ps) : (ps.map (fun i => ls.getD i default)).Perm ls := by
  have h1 := h.1.map (fun i => ls.getD i default)
  refine h1.trans ?_
  have e : (List.range ls.length).map (fun i => ls.getD i default) = ls := by
    apply List.ext_getElem
    · simp
    · intro i h1 h2
      simp [List.getD, h2]
  rw [e]
/-- a row turned is sorted alike -/
theorem places_turned {ms : List (List Sg)} {qs : List Nat} (h : Places ls ps) (hq : Places ms qs) (hm : ms.Perm ls) : ps.map (fun i => ls.getD i default) = qs.map (fun i => ms.getD i default) :=
  uniq tcP ((places_all h).trans (hm.symm.trans (places_all hq).symm)) (places_rise h.2) (places_rise hq.2)
/-- the first of the sorted row is the first -/
theorem places_first (h : Places ls ps) (h0 : 0 < ls.length) : fi ls ls.length = (ps.getD 0 0 : Nat) := by
  have hl : ps.length = ls.length := by have := h.1.length_eq; simpa using this
  rcases fi_bd ls ls.length with ⟨e, _⟩ | ⟨_, h1, h2⟩
  · omega
  · obtain ⟨f, hf⟩ : ∃ f : Nat, fi ls ls.length = (f : Int) := ⟨(fi ls ls.length).toNat, by omega⟩
    rw [hf] at h2 ⊢
    have hmin := fi_min ls ls.length h0
    rw [hf, show ((f : Int)).toNat = f from rfl] at hmin
    have hmem : f ∈ ps := h.1.mem_iff.2 (by simp; omega)
    cases hps : ps with
    | nil => rw [hps] at hl; simp at hl; omega
    | cons x r =>
      rw [hps] at hmem
      rw [List.mem_cons] at hmem
      rcases hmem with hmem | hmem
      · subst hmem
        rfl
      · exfalso
        have hx : cW ls x f < 0 := by
          have := h.2
          rw [hps] at this
          exact (List.pairwise_cons.1 this).1 f hmem
        have hxl : x < ls.length := h.lt' (by rw [hps]; simp)
        obtain ⟨m1, m2⟩ := hmin x hxl
        have ha := tcP.anti (ls.getD f default) (ls.getD x default)
        unfold cW at hx
        have hc := cI_cases (x : Int) (f : Int)
        split at hx
        · omega
        · rename_i hz
          have := m2 (by omega)
          omega
end
end Go.Proofs.Ytapfepmioiacbaa
