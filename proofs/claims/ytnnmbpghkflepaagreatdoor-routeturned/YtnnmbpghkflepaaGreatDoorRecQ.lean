/-
  Records that numbers make are right; chains and full patterns, step by step (no program).
-/
import Derived.Test.YtnnmbpghkflepaaGreatDoorRecP
namespace Go.Proofs.YtnnmbpghkflepaaGreatDoor
open Go.RowKit Go.PlainAid
set_option maxRecDepth 100000

/-- parents stand ahead -/
def ParOk (l : List Rc) : Prop := ∀ i, i < l.length → -1 ≤ (l.getD i default).p ∧ (l.getD i default).p < (i : Int)
theorem up_fuel {l : List Rc} (hp : ParOk l) : ∀ (f f' : Nat) (e e' : Int) (i : Nat), i < l.length → (i : Int) < e → e ≤ f → (i : Int) < e' → e' ≤ f' → upL l f e i = upL l f' e' i := by
  intro f
  induction f with
  | zero => intro f' e e' i _ h1 h2; omega
  | succ f ih =>
    intro f' e e' i hi h1 h2 h3 h4
    cases f' with
    | zero => omega
    | succ f' =>
      rw [upL, upL, if_pos ⟨by omega, h1⟩, if_pos ⟨by omega, h3⟩]
      congr 1
      have e9 : (i : Int).toNat = i := by omega
      rw [e9]
      obtain ⟨q1, q2⟩ := hp i hi
      by_cases hq : 0 ≤ (l.getD i default).p
      · obtain ⟨q, hq'⟩ : ∃ q : Nat, (l.getD i default).p = (q : Int) := ⟨(l.getD i default).p.toNat, by omega⟩
        rw [hq']
        exact ih f' _ _ q (by omega) (by omega) (by omega) (by omega) (by omega)
      · rw [up_stop (by omega), up_stop (by omega)]
/-- a chain is its parent's, and oneself -/
theorem ch_step {l : List Rc} (hp : ParOk l) (i : Nat) (hi : i < l.length) : chL l i = (if 0 ≤ (l.getD i default).p then chL l (l.getD i default).p else []) ++ [i] := by
  obtain ⟨f', hf, hjf, hs⟩ := up_step (l := l) (f := l.length) (e := l.length) (i := (i : Nat)) (Int.le_refl _) (by omega) (by omega)
  have e9 : (i : Int).toNat = i := by omega
  rw [e9] at hs
  rw [chL, hs, List.reverse_cons]
  congr 1
  obtain ⟨q1, q2⟩ := hp i hi
  split
  · rename_i hq
    obtain ⟨q, hq'⟩ : ∃ q : Nat, (l.getD i default).p = (q : Int) := ⟨(l.getD i default).p.toNat, by omega⟩
    rw [hq', chL]
    congr 1
    exact up_fuel hp _ _ _ _ q (by omega) (by omega) (by omega) (by omega) (by omega)
  · rename_i hq
    rw [up_stop (by omega)]
    rfl
theorem fu_step {l : List Rc} (hp : ParOk l) (i : Nat) (hi : i < l.length) : fuL l i = (if 0 ≤ (l.getD i default).p then fuL l (l.getD i default).p else []) ++ (l.getD i default).l := by
  rw [fuL, ch_step hp i hi, sgsOf, List.flatMap_append]
  congr 1
  · split <;> rfl
  · simp
/-- each is the parent of the next -/
theorem ch_links {l : List Rc} (hp : ParOk l) : ∀ (m i : Nat), i < m → i < l.length → 1 ≤ (chL l i).length ∧ (chL l i).getD ((chL l i).length - 1) 0 = i ∧ ∀ n, n < (chL l i).length → (l.getD ((chL l i).getD n 0) default).p = if n = 0 then -1 else (((chL l i).getD (n - 1) 0 : Nat) : Int) := by
  intro m
  induction m with
  | zero => intro i h; omega
  | succ m ih =>
    intro i him hi
    obtain ⟨q1, q2⟩ := hp i hi
    have hs := ch_step hp i hi
    by_cases hq : 0 ≤ (l.getD i default).p
    · obtain ⟨q, hq'⟩ : ∃ q : Nat, (l.getD i default).p = (q : Int) := ⟨(l.getD i default).p.toNat, by omega⟩
      rw [if_pos hq, hq'] at hs
      obtain ⟨a1, a2, a3⟩ := ih q (by omega) (by omega)
      generalize chL l (q : Int) = c at *
      rw [hs]
      refine ⟨by simp, ?_, fun n hn => ?_⟩
      · rw [List.length_append, List.length_singleton, Nat.add_sub_cancel]
        exact getD_end c i 0 _ rfl
      · by_cases hnc : n < c.length
        · rw [getD_app c i 0 n hnc, a3 n hnc]
          by_cases h0 : n = 0
          · rw [if_pos h0, if_pos h0]
          · rw [if_neg h0, if_neg h0, getD_app c i 0 (n - 1) (by omega)]
        · have hnc : n = c.length := by simp at hn; omega
          rw [getD_end c i 0 n hnc, hq', if_neg (by omega), getD_app c i 0 (n - 1) (by omega), hnc, a2]
    · rw [if_neg hq, List.nil_append] at hs
      rw [hs]
      refine ⟨by simp, rfl, fun n hn => ?_⟩
      have : n = 0 := by simp at hn; omega
      subst this
      rw [if_pos rfl]
      show (l.getD i default).p = -1
      omega

/-! names -/
def nmT (i : Nat) : ByteArray := if i = 0 then homeT else (⟨#[114]⟩ : ByteArray) ++ st [96 + (i : Int)]
def pnT (i : Nat) : ByteArray := (⟨#[112]⟩ : ByteArray) ++ st [96 + (i : Int)]
theorem nmT_tx : ∀ i : Fin 8, txB (nmT i.val) = true := by decide +kernel
theorem nmT_inj : ∀ i j : Fin 8, nmT i.val = nmT j.val → i = j := by decide +kernel
theorem pnT_tx : ∀ i : Fin 8, 1 ≤ i.val → txB (pnT i.val) = true := by decide +kernel
theorem pnT_inj : ∀ i j : Fin 8, pnT i.val = pnT j.val → i = j := by decide +kernel
theorem ks_tx : ∀ s ∈ ksT, txB s = true := by decide +kernel
variable {l : List Rc} {ds : List Nat}
theorem RecOk.name (h : RecOk l ds) (i : Nat) (hi : i < l.length) : (l.getD i default).n = nmT i := by
  by_cases h0 : i = 0
  · subst h0; exact h.r0.1
  · rw [(h.step i (by omega) hi).1, nmT, if_neg h0]
theorem RecOk.inj (h : RecOk l ds) {i j : Nat} (hi : i < l.length) (hj : j < l.length) (e : (l.getD i default).n = (l.getD j default).n) : i = j := by
  have h8 := h.len8
  rw [h.name i hi, h.name j hj] at e
  have := nmT_inj ⟨i, by omega⟩ ⟨j, by omega⟩ e
  exact congrArg Fin.val this
theorem RecOk.par (h : RecOk l ds) : ParOk l := by
  intro i hi
  by_cases h0 : i = 0
  · subst h0; have := h.r0.2.1; omega
  · rcases (h.step i (by omega) hi).2.1 with ⟨h1, _⟩ | ⟨q, h1, h2, _⟩ <;> omega
theorem RecOk.fit (h : RecOk l ds) : Fit l := by
  refine ⟨by have := h.len8; omega, fun r hr => ?_⟩
  obtain ⟨i, hi, rfl⟩ := List.getElem_of_mem hr
  have e : l.getD i default = l[i] := by simp [List.getD, hi]
  rw [← e]
  rcases h.seg1 i hi with h1 | ⟨g, h1⟩ <;> rw [h1] <;> simp
theorem RecOk.named (h : RecOk l ds) (i : Nat) (hi : i < l.length) : nmI l (l.getD i default).n = i :=
  nm_at hi (fun j hj e => by have := h.inj (i := j) (j := i) (by omega) hi e; omega) rfl
theorem RecOk.fresh (h : RecOk l ds) (i : Nat) (hi : i < l.length) : nmI (l.take i) (l.getD i default).n = -1 := by
  refine nm_none fun j hj e => ?_
  have hj : j < i := by rw [List.length_take] at hj; omega
  have e2 : (l.take i).getD j default = l.getD j default := by simp only [List.getD]; rw [List.getElem?_take_of_lt hj]
  rw [e2] at e
  have := h.inj (i := j) (j := i) (by omega) hi e
  omega

/-- one segment more -/
theorem rg_snoc {A : List Sg} {g : Sg} (h : rgB A = true) (hk : ∀ o ∈ A, o.1 = 0 ∨ o.1 = 1) (h8 : A.length < 8) (ht : txB g.2 = true) (hg : g.1 = 0 ∨ g.1 = 1 ∨ g.1 = 2 ∨ g.1 = 3) (hw : twB g A = false) : rgB (A ++ [g]) = true := by
  rw [rgB, Bool.and_eq_true] at h
  have hall := List.all_eq_true.1 h.2
  rw [rgB, Bool.and_eq_true]
  refine ⟨decide_eq_true (by simp; omega), ?_⟩
  rw [List.all_eq_true]
  intro j hj
  have hj : j < A.length + 1 := by simpa using hj
  by_cases hjl : j < A.length
  · have h1 := hall j (by simpa using hjl)
    have e1 : (A ++ [g]).getD j default = A.getD j default := getD_app A g default j hjl
    have e2 : (A ++ [g]).take j = A.take j := by rw [List.take_append_of_le_length (by omega)]
    rw [okB, e1, e2]
    rw [okB, Bool.and_eq_true] at h1
    rw [h1.2, Bool.and_true]
    rcases hk _ (getD_mem A j hjl) with e | e <;> rw [e] <;> rfl
  · obtain rfl : j = A.length := by omega
    have e1 : (A ++ [g]).getD A.length default = g := getD_end A g default _ rfl
    rw [okB, e1, List.take_left, ht, hw]
    simp only [List.length_append, List.length_singleton, decide_true, Bool.not_false, Bool.and_true]
    rcases hg with e | e | e | e <;> rw [e] <;> rfl
/-- what a full pattern of such records is -/
structure FuOk (l : List Rc) (ds : List Nat) (i : Nat) : Prop where
  len : (fuL l i).length ≤ ds.getD i 0
  rg : rgB (fuL l i) = true
  nm : ∀ o ∈ fuL l i, o.1 ≠ 0 → ∃ j, j ≤ i ∧ o.2 = pnT j
  low : lastB (l.getD i default).l = false → ∀ o ∈ fuL l i, o.1 = 0 ∨ o.1 = 1
theorem seg_low {i : Nat} {g : Sg} (h : SegR i g) (hl : lastB [g] = false) : g.1 = 0 ∨ g.1 = 1 := by
  have : ¬ 2 ≤ g.1 := by simpa [lastB] using hl
  rcases h with ⟨h, _⟩ | ⟨h, _⟩ <;> omega
theorem RecOk.fuok (h : RecOk l ds) : ∀ (m i : Nat), i < m → i < l.length → FuOk l ds i := by
  intro m
  induction m with
  | zero => intro i hi; omega
  | succ m ih =>
    intro i him hi
    have h8 := h.len8
    have hs := fu_step h.par i hi
    by_cases h0 : i = 0
    · subst h0
      have e : fuL l ((0 : Nat) : Int) = [] := by
        rw [hs, h.r0.2.1, h.r0.2.2]
        rfl
      refine ⟨by rw [e]; simp, by rw [e]; rfl, fun o ho => ?_, fun _ o ho => ?_⟩
      · rw [e] at ho; simp at ho
      · rw [e] at ho; simp at ho
    · obtain ⟨h1, h2, g, hg, hsg⟩ := h.step i (by omega) hi
      have htx : txB g.2 = true := by
        rcases hsg with ⟨_, hk⟩ | ⟨_, hk⟩
        · exact ks_tx _ hk
        · rw [hk]; exact pnT_tx ⟨i, by omega⟩ (show 1 ≤ i by omega)
      have hkind : g.1 = 0 ∨ g.1 = 1 ∨ g.1 = 2 ∨ g.1 = 3 := by
        rcases hsg with ⟨hk, _⟩ | ⟨hk, _⟩
        · exact Or.inl hk
        · exact Or.inr hk
      have hname : g.1 ≠ 0 → g.2 = pnT i := by
        intro hn
        rcases hsg with ⟨hk, _⟩ | ⟨_, hk⟩
        · exact absurd hk hn
        · exact hk
      rw [hg] at hs
      have main : ∀ A : List Sg, fuL l i = A ++ [g] → A.length + 1 ≤ ds.getD i 0 → A.length ≤ 4 → rgB A = true → (∀ o ∈ A, o.1 ≠ 0 → ∃ j, j < i ∧ o.2 = pnT j) → (∀ o ∈ A, o.1 = 0 ∨ o.1 = 1) → FuOk l ds i := by
        intro A hA hlen h4 hrg hnm hlow
        have htw : twB g A = false := by
          rw [twB]
          split
          · rfl
          · rename_i hn
            rw [List.any_eq_false]
            intro o ho
            simp only [twP, decide_eq_true_eq, not_and]
            intro ho1 e
            obtain ⟨j, hj, hoj⟩ := hnm o ho ho1
            rw [hname hn, hoj] at e
            have := congrArg Fin.val (pnT_inj ⟨j, by omega⟩ ⟨i, by omega⟩ e)
            simp at this
            omega
        refine ⟨by rw [hA]; simpa using hlen, by rw [hA]; exact rg_snoc hrg hlow (by omega) htx hkind htw, fun o ho hn => ?_, fun hlb o ho => ?_⟩
        · rw [hA, List.mem_append] at ho
          rcases ho with ho | ho
          · obtain ⟨j, hj, e⟩ := hnm o ho hn
            exact ⟨j, by omega, e⟩
          · rw [List.mem_singleton] at ho
            subst ho
            exact ⟨i, Nat.le_refl _, hname hn⟩
        · rw [hA, List.mem_append] at ho
          rcases ho with ho | ho
          · exact hlow o ho
          · rw [List.mem_singleton] at ho
            subst ho
            rw [hg] at hlb
            exact seg_low hsg hlb
      rcases h2 with ⟨hp, hd⟩ | ⟨q, hp, hqi, hq3, hqb, hd⟩
      · rw [hp, if_neg (by omega), List.nil_append] at hs
        exact main [] (by rw [hs]; rfl) (by rw [hd]; simp) (by simp) (by rfl) (fun o ho => by simp at ho) (fun o ho => by simp at ho)
      · rw [hp, if_pos (by omega)] at hs
        have hq := ih q (by omega) (by omega)
        have hql := hq.len
        exact main (fuL l (q : Nat)) hs (by rw [hd]; omega) (by omega) hq.rg (fun o ho hn => by obtain ⟨j, hj, e⟩ := hq.nm o ho hn; exact ⟨j, by omega, e⟩) (hq.low hqb)
theorem RecOk.right (h : RecOk l ds) : rtB l = true := by
  have h8 := h.len8
  refine rt_yes h.len1 (by omega) fun i hi => ?_
  have h1 := h.par i hi
  rw [okR, h.name i hi, nmT_tx ⟨i, by omega⟩, ← h.name i hi, h.fresh i hi, decide_eq_true h1, (h.fuok _ i (Nat.lt_succ_self i) hi).rg]
  rfl
end Go.Proofs.YtnnmbpghkflepaaGreatDoor
