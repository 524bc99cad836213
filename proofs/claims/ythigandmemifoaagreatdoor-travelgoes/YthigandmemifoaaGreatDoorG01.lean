/-
  The reference's way of parsing comes to the same. No program.
-/
import Derived.Test.YthigandmemifoaaGreatDoorP35
import Derived.Test.YthigandmemifoaaGreatDoorP37
namespace Go.Proofs.YthigandmemifoaaGreatDoor
open Go.PlainAid

def utlS (h : ByteArray) : ByteArray := h.extract 1 h.size
def upB' (h : ByteArray) : Bool := decide (h = ⟨#[47]⟩) || (spl 47 (utlS h)).all decB
def rpL' (h : ByteArray) : List ByteArray := if h = ⟨#[47]⟩ then [] else (spl 47 (utlS h)).map decS
def rqB' (l : List ByteArray) : Bool := decide (l = []) || (spl 38 (l.getD 0 default)).all (rxB 61 2)
def rqL' (l : List ByteArray) : List Pr := if l = [] then [] else (spl 38 (l.getD 0 default)).map prV

theorem rp_same (h : ByteArray) (hl : (rpL' h).length ≤ 8) : upB' h = upB h ∧ (upB h = true → rpL' h = rpL h) := by
  by_cases e : h = ⟨#[47]⟩
  · rw [upB', upB, rpL', rpL, decide_eq_true e, if_pos e, if_pos e]
    exact ⟨rfl, fun _ => rfl⟩
  · rw [rpL', if_neg e, List.length_map] at hl
    have hs : splB 47 8 (utlS h) = true := decide_eq_true hl
    rw [upB', upB, rpL', rpL, decide_eq_false e, if_neg e, if_neg e, Bool.false_or, Bool.false_or]
    have e1 : rxB 47 8 (h.extract 1 h.size) = (spl 47 (utlS h)).all decB := by
      rw [rxB]
      show (splB 47 8 (utlS h) && (spl 47 (utlS h)).all decB) = _
      rw [hs, Bool.true_and]
    refine ⟨e1.symm, fun hb => ?_⟩
    rw [rxL, if_pos hb]
    rfl
theorem rq_same (l : List ByteArray) (hl : (rqL' l).length ≤ 8) : rqB' l = rqB l ∧ (rqB l = true → rqL' l = rqL l) := by
  by_cases e : l = []
  · rw [rqB', rqB, rqL', rqL, decide_eq_true e, if_pos e, if_pos e]
    exact ⟨rfl, fun _ => rfl⟩
  · rw [rqL', if_neg e, List.length_map] at hl
    have hs : splB 38 8 (l.getD 0 default) = true := decide_eq_true hl
    have e1 : rqB' l = rqB l := by rw [rqB', rqB, hs, Bool.true_and]
    refine ⟨e1, fun hb => ?_⟩
    rw [rqL', rqL, if_neg e, if_neg e, if_pos hb]
theorem rp_long (h : ByteArray) (hl : ¬ (rpL' h).length ≤ 8) : upB h = false := by
  by_cases e : h = ⟨#[47]⟩
  · rw [rpL', if_pos e] at hl; simp at hl
  · rw [rpL', if_neg e, List.length_map] at hl
    have hs : splB 47 8 (h.extract 1 h.size) = false := decide_eq_false hl
    rw [upB, decide_eq_false e, rxB, hs]
    rfl
theorem rq_long (l : List ByteArray) (hl : ¬ (rqL' l).length ≤ 8) : rqB l = false := by
  by_cases e : l = []
  · rw [rqL', if_pos e] at hl; simp at hl
  · rw [rqL', if_neg e, List.length_map] at hl
    have hs : splB 38 8 (l.getD 0 default) = false := decide_eq_false hl
    rw [rqB, decide_eq_false e, hs]
    rfl
/-- the reference's answer -/
theorem ref_same (s : ByteArray) (h0 : s.size ≠ 0 ∧ bt s 0 = 47) (h1 : splB 63 2 s = true) : parB s = (upB' (hv0 s) && (rqB' (hvs1 s) && rightB (rpL' (hv0 s)) (rqL' (hvs1 s)))) ∧ (parB s = true → parP s = rpL' (hv0 s) ∧ parQ s = rqL' (hvs1 s)) := by
  have e0 : parB s = (upB (hv0 s) && (rqB (hvs1 s) && rightB (rpL (hv0 s)) (rqL (hvs1 s)))) := by rw [parB, decide_eq_true h0, h1]; rfl
  by_cases a : (rpL' (hv0 s)).length ≤ 8
  · by_cases b : (rqL' (hvs1 s)).length ≤ 8
    · obtain ⟨a1, a2⟩ := rp_same _ a
      obtain ⟨b1, b2⟩ := rq_same _ b
      rw [a1, b1]
      by_cases ha : upB (hv0 s) = true
      · by_cases hb : rqB (hvs1 s) = true
        · rw [a2 ha, b2 hb]
          refine ⟨e0, fun h => ?_⟩
          rw [parP, parQ, if_pos h, if_pos h]
          exact ⟨rfl, rfl⟩
        · have hb : rqB (hvs1 s) = false := by simpa using hb
          rw [hb] at e0
          simp at e0
          rw [hb, e0]
          exact ⟨by simp, fun h => by cases h⟩
      · have ha : upB (hv0 s) = false := by simpa using ha
        rw [ha] at e0
        simp at e0
        rw [ha, e0]
        exact ⟨by simp, fun h => by cases h⟩
    · have hb := rq_long _ b
      rw [hb] at e0
      simp at e0
      have hr : rightB (rpL' (hv0 s)) (rqL' (hvs1 s)) = false := by rw [rightB, decide_eq_false (fun h => b h.2)]; rfl
      rw [hr, e0]
      exact ⟨by simp, fun h => by cases h⟩
  · have ha := rp_long _ a
    rw [ha] at e0
    simp at e0
    have hr : rightB (rpL' (hv0 s)) (rqL' (hvs1 s)) = false := by rw [rightB, decide_eq_false (fun h => a h.1)]; rfl
    rw [hr, e0]
    exact ⟨by simp, fun h => by cases h⟩
end Go.Proofs.YthigandmemifoaaGreatDoor
