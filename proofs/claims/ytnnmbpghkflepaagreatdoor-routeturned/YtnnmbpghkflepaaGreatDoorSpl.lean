/-
  Splitting a text at a byte; lists of texts. No program.
-/
import Derived.Test.YtnnmbpghkflepaaGreatDoorPure
namespace Go.Proofs.YtnnmbpghkflepaaGreatDoor
open Go.PlainAid

/-- what stands between the marks -/
def splL (m : Int) : List Int → List (List Int)
  | [] => [[]]
  | c :: r => if c = m then [] :: splL m r else
    match splL m r with
    | [] => [[c]]
    | p :: ps => (c :: p) :: ps
/-- the same of a text -/
def spl (m : Int) (s : ByteArray) : List ByteArray := (splL m (bs s)).map st

theorem splL_ne (m : Int) (l : List Int) : 1 ≤ (splL m l).length := by
  cases l with
  | nil => simp [splL]
  | cons c r =>
    rw [splL]
    split
    · simp
    · split <;> simp
theorem splL_mark (m : Int) (p r : List Int) (h : ∀ x ∈ p, x ≠ m) : splL m (p ++ m :: r) = p :: splL m r := by
  induction p with
  | nil => simp [splL]
  | cons c p ih =>
    have hc : c ≠ m := h c (by simp)
    rw [List.cons_append, splL, if_neg hc, ih (fun x hx => h x (by simp [hx]))]
theorem splL_none (m : Int) (p : List Int) (h : ∀ x ∈ p, x ≠ m) : splL m p = [p] := by
  induction p with
  | nil => simp [splL]
  | cons c p ih =>
    have hc : c ≠ m := h c (by simp)
    rw [splL, if_neg hc, ih (fun x hx => h x (by simp [hx]))]
theorem spl_ne (m : Int) (s : ByteArray) : 1 ≤ (spl m s).length := by rw [spl, List.length_map]; exact splL_ne m _

/-- the first k bytes are looked at, those from a on bear no mark, P are the pieces so far -/
def SpMid (s : ByteArray) (m : Int) (a k : Nat) (P : List ByteArray) : Prop :=
  a ≤ k ∧ k ≤ s.size ∧ P.length ≤ k ∧ (∀ j, a ≤ j → j < k → bt s j ≠ m) ∧ spl m s = P ++ (splL m ((bs s).drop a)).map st
theorem spm_zero (s : ByteArray) (m : Int) : SpMid s m 0 0 [] := ⟨by omega, by omega, by simp, fun j h1 h2 => by omega, by simp [spl]⟩
theorem spm_skip {s : ByteArray} {m : Int} {a k : Nat} {P : List ByteArray} (h : SpMid s m a k P) (hk : k < s.size) (hm : bt s k ≠ m) : SpMid s m a (k + 1) P := by
  obtain ⟨h1, h2, h0, h3, h4⟩ := h
  refine ⟨by omega, by omega, by omega, fun j hj1 hj2 => ?_, h4⟩
  by_cases e : j = k
  · subst e; exact hm
  · exact h3 j hj1 (by omega)
theorem no_mark {s : ByteArray} {m : Int} {a k : Nat} (h3 : ∀ j, a ≤ j → j < k → bt s j ≠ m) : ∀ x ∈ ((bs s).drop a).take (k - a), x ≠ m := by
  intro x hx
  rw [List.mem_take_iff_getElem] at hx
  obtain ⟨i, hi, rfl⟩ := hx
  simp only [List.length_drop] at hi
  rw [List.getElem_drop]
  have e : (bs s)[a + i]'(by omega) = bt s (a + i) := by
    rw [← bs_at]
    simp [List.getD, show a + i < (bs s).length by omega]
  rw [e]
  exact h3 _ (by omega) (by omega)
theorem spm_mark {s : ByteArray} {m : Int} {a k : Nat} {P : List ByteArray} (h : SpMid s m a k P) (hk : k < s.size) (hm : bt s k = m) : SpMid s m (k + 1) (k + 1) (P ++ [s.extract a k]) := by
  obtain ⟨h1, h2, h0, h3, h4⟩ := h
  refine ⟨by omega, by omega, by simp; omega, fun j hj1 hj2 => by omega, ?_⟩
  have hl := bs_len s
  have e : (bs s).drop a = ((bs s).drop a).take (k - a) ++ m :: (bs s).drop (k + 1) := by
    conv => lhs; rw [← List.take_append_drop (k - a) ((bs s).drop a)]
    rw [List.drop_drop, show a + (k - a) = k by omega, drop_cons (show k < (bs s).length by omega), bs_at, hm]
  rw [h4, e, splL_mark m _ _ (no_mark h3), List.map_cons, ← bs_extract, st_bs]
  simp
theorem spm_end {s : ByteArray} {m : Int} {a : Nat} {P : List ByteArray} (h : SpMid s m a s.size P) : spl m s = P ++ [s.extract a s.size] := by
  obtain ⟨h1, h2, h0, h3, h4⟩ := h
  have hl := bs_len s
  have e : (bs s).drop a = ((bs s).drop a).take (s.size - a) := by
    rw [List.take_of_length_le]
    rw [List.length_drop]; omega
  rw [h4, e, splL_none m _ (no_mark h3), ← bs_extract]
  simp [st_bs]
theorem spm_len {s : ByteArray} {m : Int} {a k : Nat} {P : List ByteArray} (h : SpMid s m a k P) : P.length + 1 ≤ (spl m s).length := by
  rw [h.2.2.2.2, List.length_append, List.length_map]
  have := splL_ne m ((bs s).drop a)
  omega
theorem spl_len (m : Int) (s : ByteArray) : (spl m s).length ≤ s.size + 1 := by
  have : ∀ l : List Int, (splL m l).length ≤ l.length + 1 := by
    intro l
    induction l with
    | nil => simp [splL]
    | cons c r ih =>
      rw [splL]
      split
      · simp; omega
      · split <;> simp_all <;> omega
  rw [spl, List.length_map]
  have h := this (bs s)
  rw [bs_len] at h
  exact h
theorem spl_size (m : Int) (s p : ByteArray) (hp : p ∈ spl m s) : p.size ≤ s.size := by
  have : ∀ l : List Int, ∀ q ∈ splL m l, q.length ≤ l.length := by
    intro l
    induction l with
    | nil => intro q hq; simp [splL] at hq; simp [hq]
    | cons c r ih =>
      intro q hq
      rw [splL] at hq
      split at hq
      · simp only [List.mem_cons] at hq
        rcases hq with rfl | hq
        · simp
        · have := ih q hq; simp; omega
      · split at hq
        · simp at hq; simp [hq]
        · rename_i p ps hps
          rw [hps] at ih
          simp only [List.mem_cons] at hq
          rcases hq with rfl | hq
          · have := ih p (by simp); simp; omega
          · have := ih q (by simp [hq]); simp; omega
  rw [spl, List.mem_map] at hp
  obtain ⟨q, hq, rfl⟩ := hp
  have := this _ q hq
  rw [bs_len] at this
  rw [st_size]
  exact this
end Go.Proofs.YtnnmbpghkflepaaGreatDoor
