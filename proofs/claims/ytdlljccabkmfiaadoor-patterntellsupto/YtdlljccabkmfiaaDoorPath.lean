/-
  A path that is made of a pattern and numbers. No program.
-/
import Derived.Test.YtdlljccabkmfiaaDoorBackP
import Derived.Test.YtdlljccabkmfiaaDoorKeep
namespace Go.Proofs.YtdlljccabkmfiaaDoor
open Go.PlainAid

def wd (n : Nat) : ByteArray := wordsL.getD n default
/-- what a segment puts into the path -/
def sgP (g : Sg) (n : Nat) (drop : Bool) : List ByteArray :=
  if g.1 = 0 then [g.2] else if g.1 = 1 then [wd n] else if drop then [] else if g.1 = 2 then [wd n] else if g.1 = 3 then [wd n, wd ((n + 3) % 12)] else []
/-- a path of a pattern -/
inductive PathR (drop : Bool) : List Sg → List ByteArray → Prop
  | nil : PathR drop [] []
  | snoc {l : List Sg} {xs : List ByteArray} (h : PathR drop l xs) (g : Sg) (n : Nat) (hn : n < 12) : PathR drop (l ++ [g]) (xs ++ sgP g n drop)

theorem wd_name (n : Nat) (h : n < 12) : nameB (wd n) = true := by
  have hh : ∀ i : Fin 12, nameB (wd i.val) = true := by decide +kernel
  exact hh ⟨n, h⟩
theorem sgP_name (g : Sg) (n : Nat) (drop : Bool) (hn : n < 12) (hg : txB g.2 = true) : ∀ s ∈ sgP g n drop, nameB s = true := by
  have h3 : (n + 3) % 12 < 12 := Nat.mod_lt _ (by omega)
  intro s hs
  unfold sgP at hs
  split at hs
  · simp at hs
    subst hs
    have := (tx_all hg).1
    exact decide_eq_true ⟨this.1, by omega⟩
  · split at hs
    · simp at hs; subst hs; exact wd_name n hn
    · split at hs
      · simp at hs
      · split at hs
        · simp at hs; subst hs; exact wd_name n hn
        · split at hs
          · simp at hs
            rcases hs with rfl | rfl
            · exact wd_name n hn
            · exact wd_name _ h3
          · simp at hs
theorem sgP_len (g : Sg) (n : Nat) (drop : Bool) : (sgP g n drop).length ≤ 2 ∧ (g.1 = 0 ∨ g.1 = 1 → (sgP g n drop).length = 1) := by
  unfold sgP
  constructor
  · split
    · simp
    · split
      · simp
      · split
        · simp
        · split
          · simp
          · split <;> simp
  · intro h
    rcases h with h | h
    · rw [if_pos h]; rfl
    · rw [if_neg (by omega), if_pos h]; rfl
theorem mt_append : ∀ (l m : List Sg) (xs ys : List ByteArray) (q : List Pr), (∀ g ∈ l, g.1 = 0 ∨ g.1 = 1) → mtR l xs = some q → mtR (l ++ m) (xs ++ ys) = (mtR m ys).map (q ++ ·) := by
  intro l
  induction l with
  | nil =>
    intro m xs ys q _ h
    rw [mtR] at h
    split at h
    · rename_i e
      subst e
      cases h
      simp
    · cases h
  | cons g r ih =>
    intro m xs ys q hk h
    have hg := hk g (by simp)
    rw [mtR] at h
    rcases ht : tkN g xs with _ | n
    · rw [ht] at h; cases h
    · rw [ht] at h
      simp only [Option.map_eq_some_iff] at h
      obtain ⟨q', h1, rfl⟩ := h
      have hx : n = 1 ∧ xs ≠ [] ∧ (g.1 = 0 → xs.getD 0 default = g.2) := by
        unfold tkN at ht
        rw [if_neg (by omega), if_neg (by omega)] at ht
        split at ht
        · cases ht
        · split at ht
          · cases ht
          · rename_i h0 h2
            cases ht
            exact ⟨rfl, h0, fun e => Classical.byContradiction (fun hc => h2 ⟨e, hc⟩)⟩
      obtain ⟨rfl, hne, h0⟩ := hx
      cases xs with
      | nil => exact absurd rfl hne
      | cons a b =>
        have ht2 : tkN g (a :: (b ++ ys)) = some 1 := by
          unfold tkN
          rw [if_neg (by omega), if_neg (by omega), if_neg (by simp), if_neg]
          rintro ⟨e1, e2⟩
          exact e2 (by simpa [List.getD] using h0 e1)
        have h1 : mtR r b = some q' := h1
        rw [List.cons_append, List.cons_append, mtR, ht2]
        show (mtR (r ++ m) (b ++ ys)).map (fun q => tlP g [a] ++ q) = _
        rw [ih m b ys q' (fun x hx => hk x (by simp [hx])) h1, Option.map_map]
        congr 1
        funext z
        show tlP g [a] ++ (q' ++ z) = tlP g [a] ++ q' ++ z
        rw [List.append_assoc]
theorem mt_last (g : Sg) (n : Nat) (drop : Bool) (hk : g.1 = 0 ∨ g.1 = 1 ∨ g.1 = 2 ∨ g.1 = 3) : ∃ q, mtR [g] (sgP g n drop) = some q := by
  obtain ⟨g1, g2⟩ := g
  simp only at hk
  rcases hk with rfl | rfl | rfl | rfl
  · exact ⟨_, by simp [mtR, sgP, tkN]; rfl⟩
  · exact ⟨_, by simp [mtR, sgP, tkN]; rfl⟩
  · cases drop
    · exact ⟨_, by simp [mtR, sgP, tkN]; rfl⟩
    · exact ⟨_, by simp [mtR, sgP, tkN]; rfl⟩
  · cases drop
    · exact ⟨_, by simp [mtR, sgP, tkN]; rfl⟩
    · exact ⟨_, by simp [mtR, sgP, tkN]; rfl⟩
theorem path_mt {drop : Bool} {L : List Sg} {xs : List ByteArray} (h : PathR drop L xs) (hk : ∀ g ∈ L, g.1 = 0 ∨ g.1 = 1 ∨ g.1 = 2 ∨ g.1 = 3) (hl : ∀ i, i + 1 < L.length → (L.getD i default).1 = 0 ∨ (L.getD i default).1 = 1) : ∃ q, mtR L xs = some q := by
  induction h with
  | nil => exact ⟨[], rfl⟩
  | @snoc l xs h g n hn ih =>
    have hpre : ∀ x ∈ l, x.1 = 0 ∨ x.1 = 1 := by
      intro x hx
      obtain ⟨i, hi, rfl⟩ := List.getElem_of_mem hx
      have := hl i (by simp; omega)
      have e : (l ++ [g]).getD i default = l[i] := by
        simp only [List.getD]
        rw [List.getElem?_append_left hi]
        simp [hi]
      rwa [e] at this
    obtain ⟨q, hq⟩ := ih (fun x hx => hk x (by simp [hx])) (fun i hi => by
      have := hl i (by simp; omega)
      have e : (l ++ [g]).getD i default = l.getD i default := by
        simp only [List.getD]
        rw [List.getElem?_append_left (by omega)]
      rwa [e] at this)
    obtain ⟨q2, hq2⟩ := mt_last g n drop (hk g (by simp))
    exact ⟨q ++ q2, by rw [mt_append l [g] xs _ q hpre hq, hq2]; rfl⟩
theorem rg_pre {L : List Sg} (h : rgB L = true) (i : Nat) (hi : i + 1 < L.length) : (L.getD i default).1 = 0 ∨ (L.getD i default).1 = 1 := by
  have := rg_ok h i (by omega)
  rw [okB, Bool.and_eq_true] at this
  have h1 := this.1
  rw [decide_eq_false (by omega)] at h1
  unfold stB at h1
  split at h1
  · assumption
  · split at h1 <;> cases h1
theorem path_len {drop : Bool} {L : List Sg} {xs : List ByteArray} (h : PathR drop L xs) : xs.length ≤ 2 * L.length := by
  induction h with
  | nil => simp
  | @snoc l xs h g n hn ih =>
    have := (sgP_len g n drop).1
    simp
    omega
theorem path_len1 {drop : Bool} {L : List Sg} {xs : List ByteArray} (h : PathR drop L xs) (hk : ∀ g ∈ L, g.1 = 0 ∨ g.1 = 1) : xs.length = L.length := by
  induction h with
  | nil => rfl
  | @snoc l xs h g n hn ih =>
    have h1 := ih (fun x hx => hk x (by simp [hx]))
    have h2 := (sgP_len g n drop).2 (hk g (by simp))
    simp
    omega
theorem path_names {drop : Bool} {L : List Sg} {xs : List ByteArray} (h : PathR drop L xs) (ht : ∀ g ∈ L, txB g.2 = true) : ∀ s ∈ xs, nameB s = true := by
  induction h with
  | nil => intro s hs; cases hs
  | @snoc l xs h g n hn ih =>
    intro s hs
    rw [List.mem_append] at hs
    rcases hs with hs | hs
    · exact ih (fun x hx => ht x (by simp [hx])) s hs
    · exact sgP_name g n drop hn (ht g (by simp)) s hs
/-- such a path is right, and it is matched -/
theorem path_right {drop : Bool} {L : List Sg} {xs : List ByteArray} (h : PathR drop L xs) (hr : rgB L = true) (h5 : L.length ≤ 5) : rightB xs [] = true ∧ ∃ q, mtR L xs = some q := by
  refine ⟨?_, path_mt h (fun g hg => (ok_parts hr hg).2) (rg_pre hr)⟩
  have hlen : xs.length ≤ 8 := by
    cases h with
    | nil => simp
    | @snoc l ys h g n hn =>
      have h1 := path_len1 h (by
        intro x hx
        obtain ⟨i, hi, rfl⟩ := List.getElem_of_mem hx
        have := rg_pre hr i (by simp; omega)
        have e : (l ++ [g]).getD i default = l[i] := by
          simp only [List.getD]
          rw [List.getElem?_append_left hi]
          simp [hi]
        rwa [e] at this)
      have h2 := (sgP_len g n drop).1
      simp at h5 ⊢
      omega
  rw [rightB, decide_eq_true ⟨hlen, by simp⟩, Bool.true_and, Bool.and_eq_true, List.all_eq_true]
  exact ⟨path_names h (fun g hg => (ok_parts hr hg).1), rfl⟩
end Go.Proofs.YtdlljccabkmfiaaDoor
