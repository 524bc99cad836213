/-
  porticokeep's Segs.
-/
import Derived.Test.YtdlljccabkmfiaaDoorKeep
import Derived.Test.YtdlljccabkmfiaaDoorTxt
import Derived.Test.YtdlljccabkmfiaaDoorInv
namespace Go.Proofs.YtdlljccabkmfiaaDoor
open Go.RowKit Go.PlainAid

def ksT : List ByteArray := [⟨#[97]⟩, ⟨#[98]⟩, ⟨#[105, 116, 101, 109]⟩, ⟨#[122]⟩, ⟨#[49]⟩, ⟨#[108, 105, 115, 116]⟩]
def lastT : ByteArray := ⟨#[108, 97, 115, 116]⟩
/-- a parameter's name -/
def pI (j : Nat) : ByteArray := st [112, 48 + (j : Int)]
/-- a segment that a number makes -/
def ksB (j : Nat) (g : Sg) : Bool := (decide (g.1 = 0) && ksT.any (fun t => decide (t = g.2))) || decide (g = (1, pI j))
/-- a pattern that numbers make -/
def KeepG (l : List Sg) : Prop := rgB l = true ∧ l.length ≤ 5 ∧ ∀ g ∈ l, g.1 = 0 ∨ g.2 ≠ ⟨#[110, 111, 110, 101]⟩

def Mid4 (l : List Sg) : Prop := l.length ≤ 4 ∧ ∀ j, j < l.length → ksB j (l.getD j default) = true

theorem pI_tx : ∀ j, j < 4 → txB (pI j) = true ∧ pI j ≠ lastT ∧ pI j ≠ ⟨#[110, 111, 110, 101]⟩ := by
  have h : ∀ j : Fin 4, txB (pI j.val) = true ∧ pI j.val ≠ lastT ∧ pI j.val ≠ ⟨#[110, 111, 110, 101]⟩ := by decide +kernel
  exact fun j hj => h ⟨j, hj⟩
theorem pI_inj : ∀ i j, i < 4 → j < 4 → i ≠ j → pI i ≠ pI j := by
  have h : ∀ i j : Fin 4, i ≠ j → pI i.val ≠ pI j.val := by decide +kernel
  exact fun i j hi hj hn => h ⟨i, hi⟩ ⟨j, hj⟩ (fun e => hn (by simpa using e))
theorem ks_tx {t : ByteArray} (h : ksT.any (fun x => decide (x = t)) = true) : txB t = true := by
  have hh : ksT.all (fun t => txB t) = true := by decide +kernel
  rw [List.any_eq_true] at h
  obtain ⟨x, hx, e⟩ := h
  have e := of_decide_eq_true e
  subst e
  rw [List.all_eq_true] at hh
  exact hh _ hx
theorem ks_cases {j : Nat} {g : Sg} (h : ksB j g = true) (hj : j < 4) : txB g.2 = true ∧ (g.1 = 0 ∨ g = (1, pI j)) := by
  rw [ksB, Bool.or_eq_true, Bool.and_eq_true] at h
  rcases h with ⟨h1, h2⟩ | h
  · exact ⟨ks_tx h2, Or.inl (of_decide_eq_true h1)⟩
  · have := of_decide_eq_true h
    subst this
    exact ⟨(pI_tx j hj).1, Or.inr rfl⟩
theorem getD_take {α : Type} [Inhabited α] (l : List α) (k i : Nat) (h : i < k) : (l.take k).getD i default = l.getD i default := by
  simp only [List.getD]
  rw [List.getElem?_take_of_lt h]
theorem mem_take_getD {α : Type} [Inhabited α] {l : List α} {k : Nat} {x : α} (h : x ∈ l.take k) : ∃ i, i < k ∧ i < l.length ∧ x = l.getD i default := by
  rw [List.mem_take_iff_getElem] at h
  obtain ⟨i, hi, rfl⟩ := h
  exact ⟨i, by omega, by omega, by simp [List.getD, show i < l.length by omega]⟩
theorem mid_okB {l : List Sg} (h : Mid4 l) (m : List Sg) (hm : ∀ i, i < l.length → m.getD i default = l.getD i default) (_ : l.length ≤ m.length) (j : Nat) (hj : j < l.length) : okB m j = true := by
  obtain ⟨h4, hk⟩ := h
  obtain ⟨h1, h2⟩ := ks_cases (hk j hj) (by omega)
  rw [okB, hm j hj, h1]
  rcases h2 with h0 | h0
  · have e1 : ∀ b, stB (l.getD j default).1 b = true := fun b => by rw [h0]; rfl
    rw [e1, twB, if_pos h0]
    rfl
  · rw [h0]
    have e1 : ∀ b, stB 1 b = true := fun b => rfl
    rw [e1, twB, if_neg (show ¬ (1 : Int) = 0 by decide)]
    have : (m.take j).any (twP (1, pI j)) = false := by
      rw [List.any_eq_false]
      intro x hx
      obtain ⟨i, hi, _, rfl⟩ := mem_take_getD hx
      rw [hm i (by omega)]
      obtain ⟨_, h3⟩ := ks_cases (hk i (by omega)) (by omega)
      rw [Bool.not_eq_true]
      refine decide_eq_false ?_
      rintro ⟨a, b⟩
      rcases h3 with h3 | h3
      · exact a h3
      · rw [h3] at b
        exact pI_inj i j (by omega) (by omega) (by omega) b
    rw [this]
    rfl
theorem mid_keep {l : List Sg} (h : Mid4 l) : KeepG l := by
  refine ⟨rg_yes (by have := h.1; omega) (fun j hj => mid_okB h l (fun _ _ => rfl) (Nat.le_refl _) j hj), by have := h.1; omega, fun g hg => ?_⟩
  obtain ⟨j, hj, rfl⟩ := List.getElem_of_mem hg
  have e : l.getD j default = l[j] := by simp [List.getD, hj]
  obtain ⟨_, h2⟩ := ks_cases (h.2 j hj) (by have := h.1; omega)
  rw [e] at h2
  rcases h2 with h2 | h2
  · exact Or.inl h2
  · right
    rw [h2]
    exact (pI_tx j (by have := h.1; omega)).2.2
theorem mid_last {l : List Sg} (h : Mid4 l) (n : Int) (hn : n = 2 ∨ n = 3) : KeepG (l ++ [(n, lastT)]) := by
  have h4 := h.1
  have hm : ∀ i, i < l.length → (l ++ [(n, lastT)]).getD i default = l.getD i default := fun i hi => by
    simp only [List.getD]
    rw [List.getElem?_append_left hi]
  have hlen : (l ++ [(n, lastT)]).length = l.length + 1 := by simp
  have hat : (l ++ [(n, lastT)]).getD l.length default = (n, lastT) := by simp [List.getD]
  refine ⟨rg_yes (by omega) (fun j hj => ?_), by omega, fun g hg => ?_⟩
  · by_cases e : j < l.length
    · exact mid_okB h _ hm (by omega) j e
    · obtain rfl : j = l.length := by omega
      rw [okB, hat, hlen, decide_eq_true rfl]
      have e1 : stB n true = true := by rcases hn with rfl | rfl <;> rfl
      have e2 : txB lastT = true := by decide +kernel
      have e3 : twB (n, lastT) ((l ++ [(n, lastT)]).take l.length) = false := by
        rw [List.take_left, twB, if_neg (show ¬ n = 0 by omega), List.any_eq_false]
        intro x hx
        obtain ⟨i, hi, rfl⟩ := List.getElem_of_mem hx
        have e : l.getD i default = l[i] := by simp [List.getD, hi]
        obtain ⟨_, h3⟩ := ks_cases (h.2 i hi) (by omega)
        rw [e] at h3
        rw [Bool.not_eq_true]
        refine decide_eq_false ?_
        rintro ⟨a, b⟩
        rcases h3 with h3 | h3
        · exact a h3
        · rw [h3] at b
          exact (pI_tx i (by omega)).2.1 b
      show (stB n true && (txB lastT && !twB (n, lastT) ((l ++ [(n, lastT)]).take l.length))) = true
      rw [e1, e2, e3]
      rfl
  · rw [List.mem_append] at hg
    rcases hg with hg | hg
    · exact (mid_keep h).2.2 g hg
    · simp at hg
      subst hg
      right
      show lastT ≠ _
      decide +kernel
theorem mid_push {l : List Sg} (h : Mid4 l) (hl : l.length < 4) (g : Sg) (hg : ksB l.length g = true) : Mid4 (l ++ [g]) := by
  refine ⟨by simp; omega, fun j hj => ?_⟩
  simp at hj
  by_cases e : j < l.length
  · have : (l ++ [g]).getD j default = l.getD j default := by
      simp only [List.getD]
      rw [List.getElem?_append_left e]
    rw [this]
    exact h.2 j e
  · obtain rfl : j = l.length := by omega
    have : (l ++ [g]).getD l.length default = g := by simp [List.getD]
    rw [this]
    exact hg
end Go.Proofs.YtdlljccabkmfiaaDoor
