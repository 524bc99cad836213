/-
  Trees that grow of nodes, each hung below an earlier one: how many, how deep, that they are right, how long their text is. No program.
-/
import Derived.Test.YtolklphenllhpaaRuns
namespace Go.Proofs.Ytolklphenllhpaa
open Go.PlainAid
set_option maxRecDepth 100000

structure Nde where
  tag : Tx
  key : Tx
  text : Tx
  attrs : List Pr
def kK (U : Nat → Int) (n at_ : Nat) : List Nat := (List.range n).filter (fun i => decide (at_ < i ∧ U i = (at_ : Int)))
theorem mem_kK {U : Nat → Int} {n a i : Nat} : i ∈ kK U n a ↔ i < n ∧ a < i ∧ U i = (a : Int) := by simp [kK]
def gT (nd : Nat → Nde) (U : Nat → Int) (n : Nat) (at_ : Nat) : Tr :=
  .mk (nd at_).tag (nd at_).key (nd at_).text (nd at_).attrs ((kK U n at_).attach.map (fun x => gT nd U n x.1))
termination_by n - at_
decreasing_by
  have := mem_kK.1 x.2
  omega
theorem gT_eq (nd : Nat → Nde) (U : Nat → Int) (n at_ : Nat) : gT nd U n at_ = .mk (nd at_).tag (nd at_).key (nd at_).text (nd at_).attrs ((kK U n at_).map (gT nd U n)) := by
  rw [gT]
  congr 1
  simp
def sumN (f : Nat → Nat) : Nat → Nat
  | 0 => 0
  | n + 1 => sumN f n + f n
theorem sumN_add (f g : Nat → Nat) (n : Nat) : sumN (fun i => f i + g i) n = sumN f n + sumN g n := by
  induction n with
  | zero => rfl
  | succ n ih => simp only [sumN, ih]; omega
theorem sumN_congr {f g : Nat → Nat} {n : Nat} (h : ∀ i, i < n → f i = g i) : sumN f n = sumN g n := by
  induction n with
  | zero => rfl
  | succ n ih => simp only [sumN, ih (fun i hi => h i (by omega)), h n (by omega)]
theorem sumN_le {f : Nat → Nat} {n i : Nat} (h : i < n) : f i ≤ sumN f n := by
  induction n with
  | zero => omega
  | succ n ih =>
    simp only [sumN]
    by_cases e : i = n
    · subst e; omega
    · have := ih (by omega); omega
theorem sumN_zero {f : Nat → Nat} {n : Nat} (h : ∀ i, i < n → f i = 0) : sumN f n = 0 := by
  induction n with
  | zero => rfl
  | succ n ih => simp only [sumN, ih (fun i hi => h i (by omega)), h n (by omega)]
theorem sumN_at (m c n : Nat) (h : m < n) : sumN (fun i => if i = m then c else 0) n = c := by
  induction n with
  | zero => omega
  | succ n ih =>
    simp only [sumN]
    by_cases e : n = m
    · subst e
      rw [sumN_zero (fun i hi => if_neg (by omega)), if_pos rfl]
      omega
    · rw [ih (by omega), if_neg e]
      omega
theorem cntL_kK (T : Nat → Tr) (p : Nat → Bool) (n : Nat) : cntL (((List.range n).filter p).map T) = sumN (fun i => if p i = true then (T i).cnt else 0) n := by
  induction n with
  | zero => rfl
  | succ n ih =>
    rw [List.range_succ, List.filter_append, List.map_append, cntL_app, ih]
    simp only [sumN]
    by_cases h : p n = true
    · rw [List.filter_cons_of_pos h, if_pos h]; simp [cntL]
    · rw [List.filter_cons_of_neg h, if_neg h]; simp [cntL]
section
variable {nd : Nat → Nde} {U : Nat → Int} {n : Nat}
theorem gT_cnt (at_ : Nat) : (gT nd U n at_).cnt = 1 + sumN (fun i => if at_ < i ∧ U i = (at_ : Int) then (gT nd U n i).cnt else 0) n := by
  rw [gT_eq, cnt_mk, kK, cntL_kK]
  congr 1
  exact sumN_congr (fun i _ => by simp)
def fN (nd : Nat → Nde) (U : Nat → Int) (n m : Nat) : Nat := sumN (fun i => if m ≤ i ∧ U i < (m : Int) then (gT nd U n i).cnt else 0) n
theorem fN_step (hU : ∀ i, i < n → U i < (i : Int)) {m : Nat} (hm : m < n) : fN nd U n m = fN nd U n (m + 1) + 1 := by
  have h1 : fN nd U n m + sumN (fun i => if m < i ∧ U i = (m : Int) then (gT nd U n i).cnt else 0) n = fN nd U n (m + 1) + sumN (fun i => if i = m then (gT nd U n m).cnt else 0) n := by
    unfold fN
    rw [← sumN_add, ← sumN_add]
    apply sumN_congr
    intro i hi
    have hu := hU i hi
    by_cases h0 : i < m
    · rw [if_neg (by omega), if_neg (by omega), if_neg (by omega), if_neg (by omega)]
    · by_cases h1 : i = m
      · subst h1
        rw [if_pos (by omega), if_neg (by omega), if_neg (by omega), if_pos rfl]
        omega
      · rw [if_neg h1]
        by_cases h2 : U i < (m : Int)
        · rw [if_pos (by omega), if_neg (by omega), if_pos (by omega)]
        · by_cases h3 : U i = (m : Int)
          · rw [if_neg (by omega), if_pos (by omega), if_pos (by omega)]
            omega
          · rw [if_neg (by omega), if_neg (by omega), if_neg (by omega)]
  rw [sumN_at m _ n hm] at h1
  have h2 := gT_cnt (nd := nd) (U := U) (n := n) m
  omega
theorem fN_all (hU : ∀ i, i < n → U i < (i : Int)) (k : Nat) : k ≤ n → fN nd U n (n - k) = k := by
  induction k with
  | zero => intro _; exact sumN_zero (fun i hi => if_neg (by omega))
  | succ k ih =>
    intro h
    have := fN_step (nd := nd) hU (m := n - (k + 1)) (by omega)
    rw [show n - (k + 1) + 1 = n - k by omega, ih (by omega)] at this
    exact this
theorem gT_cnt_le (hU : ∀ i, i < n → U i < (i : Int)) (hn : 0 < n) : (gT nd U n 0).cnt ≤ n := by
  have h := fN_all (nd := nd) hU n (Nat.le_refl _)
  rw [Nat.sub_self] at h
  have h2 := sumN_le (f := fun i => if 0 ≤ i ∧ U i < ((0 : Nat) : Int) then (gT nd U n i).cnt else 0) (i := 0) hn
  have h3 := hU 0 hn
  rw [if_pos ⟨Nat.le_refl _, by simpa using h3⟩] at h2
  unfold fN at h
  omega
theorem depL_le {l : List Tr} {m : Nat} (h : ∀ t ∈ l, t.dep ≤ m) : depL l ≤ m := by
  induction l with
  | nil => simp [depL]
  | cons t l ih =>
    rw [depL]
    have := h t (by simp)
    have := ih (fun x hx => h x (by simp [hx]))
    omega
theorem gT_dep (D : Nat → Nat) (M : Nat) (hD : ∀ i, i < n → D i ≤ M) (hk : ∀ a i, i < n → a < i → U i = (a : Int) → D i = D a + 1) (k : Nat) : ∀ a, a < n → n - a ≤ k → (gT nd U n a).dep + D a ≤ M + 1 := by
  induction k with
  | zero => intro a h1 h2; omega
  | succ k ih =>
    intro a h1 h2
    rw [gT_eq, dep_mk]
    have := hD a h1
    have h3 : depL ((kK U n a).map (gT nd U n)) ≤ M - D a := by
      refine depL_le (fun t ht => ?_)
      obtain ⟨i, hi, rfl⟩ := List.mem_map.1 ht
      obtain ⟨i1, i2, i3⟩ := mem_kK.1 hi
      have h4 := ih i i1 (by omega)
      have h5 := hk a i i1 i2 i3
      have h6 := cnt_pos (gT nd U n i)
      omega
    omega
theorem gT_all {P : Tr → Prop} (h : ∀ a, a < n → P (gT nd U n a)) (k : Nat) : ∀ a, a < n → n - a ≤ k → (gT nd U n a).all P := by
  induction k with
  | zero => intro a h1 h2; omega
  | succ k ih =>
    intro a h1 h2
    rw [all_iff]
    refine ⟨h a h1, fun t ht => ?_⟩
    rw [gT_eq] at ht
    obtain ⟨i, hi, rfl⟩ := List.mem_map.1 (show t ∈ (kK U n a).map (gT nd U n) from ht)
    obtain ⟨i1, i2, _⟩ := mem_kK.1 hi
    exact ih i i1 (by omega)
end
/-- what each node is made of -/
def NdO (x : Nde) : Prop := (x.tag.size = 0 ∧ x.key.size = 0 ∧ x.attrs = [] ∧ x.text.size ≤ 4) ∨ (tagB x.tag = true ∧ 1 ≤ x.tag.size ∧ x.tag.size ≤ 6 ∧ x.key.size ≤ 1 ∧ x.text.size = 0 ∧ (x.attrs = [] ∨ ∃ y, x.attrs = [(tX, y)] ∧ y.size ≤ 4))
def NdW (t : Tr) : Prop := NdO ⟨t.tag, t.key, t.text, t.attrs⟩ ∧ (t.tag.size = 0 → t.kids = []) ∧ t.kids.length ≤ 13
theorem kK_len (U : Nat → Int) (n a : Nat) : (kK U n a).length ≤ n := by
  have := List.length_filter_le (fun i => decide (a < i ∧ U i = (a : Int))) (List.range n)
  rw [List.length_range] at this
  exact this
theorem gT_ndw {nd : Nat → Nde} {U : Nat → Int} {n : Nat} (hn : n ≤ 13) (ho : ∀ i, i < n → NdO (nd i)) (ht : ∀ a i, i < n → a < i → U i = (a : Int) → (nd a).tag.size ≠ 0) (a : Nat) (ha : a < n) : NdW (gT nd U n a) := by
  rw [gT_eq]
  refine ⟨ho a ha, fun h => ?_, ?_⟩
  · show (kK U n a).map _ = []
    rw [List.map_eq_nil_iff, List.eq_nil_iff_forall_not_mem]
    intro i hi
    obtain ⟨i1, i2, i3⟩ := mem_kK.1 hi
    exact ht a i i1 i2 i3 h
  · show ((kK U n a).map (gT nd U n)).length ≤ 13
    rw [List.length_map]
    have := kK_len U n a
    omega
theorem NdW.nds {t : Tr} (h : NdW t) : NdS t := by
  obtain ⟨h, _, _⟩ := h
  rcases h with ⟨a, b, c, d⟩ | ⟨_, a, b, c, d, e⟩
  · simp only at a b c d
    exact ⟨Or.inl (by rw [c]; simp), by omega, by omega, by omega⟩
  · simp only at a b c d e
    refine ⟨Or.inl ?_, by omega, by omega, by omega⟩
    rcases e with e | ⟨y, e, _⟩ <;> rw [e] <;> simp
theorem atB_x {y : Tx} (h : y.size ≤ 4) : atB [(tX, y)] = true := atB_few (by simp) (fun p hp => by
  rw [List.mem_singleton] at hp
  subst hp
  exact ⟨show 1 ≤ tX.size by decide, show tX.size ≤ 64 by decide, by show y.size ≤ 64; omega⟩)
theorem NdW.rn {t : Tr} (h : NdW t) : rn t = true := by
  obtain ⟨h, h2, h3⟩ := h
  cases t with
  | mk g k x a ks =>
    simp only [Tr.tag, Tr.key, Tr.text, Tr.attrs, Tr.kids] at h h2 h3
    show (if g.size = 0 then _ else _) = true
    rcases h with ⟨a1, b, c, d⟩ | ⟨o, a1, b, c, d, e⟩
    · simp only at a1 b c d
      rw [if_pos a1]
      exact decide_eq_true ⟨b, by rw [c]; rfl, by rw [h2 a1]; rfl, by omega⟩
    · simp only at o a1 b c d e
      rw [if_neg (by omega), o, decide_eq_true (show k.size ≤ 64 by omega), decide_eq_true d, decide_eq_true (show ks.length ≤ 24 by omega)]
      rcases e with e | ⟨y, e, hy⟩
      · rw [e]; rfl
      · rw [e, atB_x hy]; rfl
theorem all_mono {P Q : Tr → Prop} (h : ∀ t, P t → Q t) (n : Nat) : ∀ t : Tr, t.cnt ≤ n → t.all P → t.all Q := by
  induction n with
  | zero => intro t hz; have := cnt_pos t; omega
  | succ n ih =>
    intro t hz ht
    rw [all_iff] at ht ⊢
    refine ⟨h t ht.1, fun k hk => ih k ?_ (ht.2 k hk)⟩
    cases t with
    | mk g k' x a ks =>
      rw [cnt_mk] at hz
      have hk' : k ∈ ks := hk
      have : ∀ l : List Tr, k ∈ l → k.cnt ≤ cntL l := by
        intro l
        induction l with
        | nil => intro h; cases h
        | cons t l ih =>
          intro h
          rw [cntL]
          rcases List.mem_cons.1 h with rfl | h
          · omega
          · have := ih h; omega
      have := this ks hk'
      omega
mutual
theorem prt_len : ∀ t : Tr, t.all NdW → (prt t).length ≤ 100 * t.cnt
  | .mk g k x a ks => by
    intro h
    have hN : NdW (.mk g k x a ks) := by rw [Tr.all] at h; exact h.1
    have hL : allL NdW ks := by rw [Tr.all] at h; exact h.2
    have h1 := prtL_len ks hL
    obtain ⟨hN, _, _⟩ := hN
    rw [prt_mk, cnt_mk]
    rcases hN with ⟨a1, b, c, d⟩ | ⟨o, a1, b, c, d, e⟩
    · simp only [Tr.tag, Tr.key, Tr.text, Tr.attrs] at a1 b c d
      rw [if_pos a1]
      have := qt_len x
      omega
    · simp only [Tr.tag, Tr.key, Tr.text, Tr.attrs] at o a1 b c d e
      rw [if_neg (by omega)]
      have hk : (if k.size = 0 then [] else 35 :: qtL k).length ≤ 5 := by
        have := qt_len k
        split
        · simp
        · rw [List.length_cons]; omega
      have ha : (a.flatMap atL).length ≤ 16 := by
        rcases e with e | ⟨y, e, hy⟩
        · rw [e]; simp
        · rw [e]
          have h2 := qt_len y
          have h3 : (qtL tX).length ≤ 4 := by decide
          simp only [List.flatMap_cons, List.flatMap_nil, List.append_nil, atL, List.length_cons, List.length_append]
          omega
      simp only [hdL, List.length_append, List.length_cons, List.length_nil, bs_len]
      omega
theorem prtL_len : ∀ l : List Tr, allL NdW l → (prtL l).length ≤ 100 * cntL l
  | [] => by intro _; simp [prtL]
  | t :: ts => by
    intro h
    rw [allL] at h
    have := prt_len t h.1
    have := prtL_len ts h.2
    rw [prtL, cntL, List.length_append]
    omega
end
/-- a tree that a Wood makes -/
def WoT (t : Tr) : Prop := t.all NdW ∧ t.cnt ≤ 13 ∧ t.dep ≤ 7 ∧ t.tag.size ≠ 0
theorem WoT.nds {t : Tr} (h : WoT t) : t.all NdS := all_mono (fun _ => NdW.nds) _ t (Nat.le_refl _) h.1
theorem WoT.right {t : Tr} (h : WoT t) : t.all (fun x => rn x = true) := all_mono (fun _ => NdW.rn) _ t (Nat.le_refl _) h.1
theorem WoT.rt {t : Tr} (h : WoT t) : rtB t = true := by
  have := rg_yes 12 t 60 h.right (by have := h.2.2.1; omega) (by have := h.2.1; omega)
  unfold rtB
  rw [this]
theorem WoT.len {t : Tr} (h : WoT t) : (prt t).length ≤ 1300 := by
  have := prt_len t h.1
  have := h.2.1
  omega
end Go.Proofs.Ytolklphenllhpaa
