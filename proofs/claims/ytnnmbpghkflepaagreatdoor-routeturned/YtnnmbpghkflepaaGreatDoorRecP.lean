/-
  Records that numbers make: what is so of them (no program).
-/
import Derived.Test.YtnnmbpghkflepaaGreatDoorRRt
import Derived.Test.YtnnmbpghkflepaaGreatDoorKSm
namespace Go.Proofs.YtnnmbpghkflepaaGreatDoor
open Go.RowKit Go.PlainAid
set_option maxRecDepth 100000

def homeT : ByteArray := ⟨#[104, 111, 109, 101]⟩
/-- a segment of the i-th record -/
def SegR (i : Nat) (g : Sg) : Prop := (g.1 = 0 ∧ g.2 ∈ ksT) ∨ ((g.1 = 1 ∨ g.1 = 2 ∨ g.1 = 3) ∧ g.2 = ⟨#[112]⟩ ++ st [96 + (i : Int)])
/-- a parent, and how deep one stands below it -/
def ParR (l : List Rc) (ds : List Nat) (i : Nat) (p : Int) (d : Nat) : Prop := (p = -1 ∧ d = 1) ∨ ∃ q : Nat, p = (q : Int) ∧ q < i ∧ ds.getD q 0 ≤ 3 ∧ lastB (l.getD q default).l = false ∧ d = ds.getD q 0 + 1
structure RecOk (l : List Rc) (ds : List Nat) : Prop where
  len1 : 1 ≤ l.length
  len8 : l.length ≤ 8
  dlen : ds.length = l.length
  d0 : ds.getD 0 0 = 0
  r0 : (l.getD 0 default).n = homeT ∧ (l.getD 0 default).p = -1 ∧ (l.getD 0 default).l = []
  step : ∀ i, 1 ≤ i → i < l.length → (l.getD i default).n = ⟨#[114]⟩ ++ st [96 + (i : Int)] ∧ ParR l ds i (l.getD i default).p (ds.getD i 0) ∧ ∃ g, (l.getD i default).l = [g] ∧ SegR i g
theorem recOk_home (u : Value) : RecOk [⟨homeT, -1, u, [], 0, false, 0, 0, ⟨#[]⟩⟩] [0] :=
  ⟨by simp, by simp, rfl, rfl, ⟨rfl, rfl, rfl⟩, fun i h1 h2 => by simp at h2; omega⟩
theorem getD_app {α : Type} [Inhabited α] (l : List α) (x d : α) (i : Nat) (h : i < l.length) : (l ++ [x]).getD i d = l.getD i d := by
  simp only [List.getD]; rw [List.getElem?_append_left h]
theorem getD_end {α : Type} [Inhabited α] (l : List α) (x d : α) (i : Nat) (h : i = l.length) : (l ++ [x]).getD i d = x := by
  subst h; simp [List.getD]
theorem RecOk.push {l : List Rc} {ds : List Nat} (h : RecOk l ds) (h8 : l.length < 8) (r : Rc) (d : Nat) (hn : r.n = ⟨#[114]⟩ ++ st [96 + (l.length : Int)]) (hp : ParR l ds l.length r.p d) (g : Sg) (hl : r.l = [g]) (hg : SegR l.length g) : RecOk (l ++ [r]) (ds ++ [d]) := by
  have hdl := h.dlen
  have hl1 := h.len1
  have par : ∀ i p d', i ≤ l.length → ParR l ds i p d' → ParR (l ++ [r]) (ds ++ [d]) i p d' := by
    intro i p d' hi hp
    rcases hp with hp | ⟨q, h1, h2, h3, h4, h5⟩
    · exact Or.inl hp
    · refine Or.inr ⟨q, h1, h2, ?_, ?_, ?_⟩
      · rw [getD_app ds d 0 q (by omega)]; exact h3
      · rw [getD_app l r default q (by omega)]; exact h4
      · rw [getD_app ds d 0 q (by omega)]; exact h5
  refine ⟨by simp, by simp; omega, by simp; omega, ?_, ?_, fun i h1 h2 => ?_⟩
  · rw [getD_app ds d 0 0 (by omega)]; exact h.d0
  · rw [getD_app l r default 0 (by omega)]; exact h.r0
  · by_cases hi : i < l.length
    · rw [getD_app l r default i hi, getD_app ds d 0 i (by omega)]
      obtain ⟨a, b, c⟩ := h.step i h1 hi
      exact ⟨a, par i _ _ (by omega) b, c⟩
    · have hi : i = l.length := by simp at h2; omega
      subst hi
      rw [getD_end l r default _ rfl, getD_end ds d 0 _ hdl.symm]
      exact ⟨hn, par _ _ _ (Nat.le_refl _) hp, g, hl, hg⟩
theorem RecOk.seg1 {l : List Rc} {ds : List Nat} (h : RecOk l ds) (i : Nat) (hi : i < l.length) : (l.getD i default).l = [] ∨ ∃ g, (l.getD i default).l = [g] := by
  by_cases h0 : i = 0
  · subst h0; exact Or.inl h.r0.2.2
  · obtain ⟨_, _, g, hg, _⟩ := h.step i (by omega) hi
    exact Or.inr ⟨g, hg⟩
theorem RecOk.dle {l : List Rc} {ds : List Nat} (h : RecOk l ds) (i : Nat) (hi : i < l.length) : ds.getD i 0 ≤ 4 := by
  by_cases h0 : i = 0
  · subst h0; rw [h.d0]; omega
  · obtain ⟨_, h1, _⟩ := h.step i (by omega) hi
    rcases h1 with ⟨_, h1⟩ | ⟨q, _, _, h2, _, h3⟩ <;> omega
end Go.Proofs.YtnnmbpghkflepaaGreatDoor
