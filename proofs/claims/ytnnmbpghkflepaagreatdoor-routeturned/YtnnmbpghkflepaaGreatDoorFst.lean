/-
  Slices of patterns, as they are read; rank's First.
-/
import Derived.Test.YtnnmbpghkflepaaGreatDoorCmp
namespace Go.Proofs.YtnnmbpghkflepaaGreatDoor
open Go.RowKit Go.PlainAid
set_option maxRecDepth 100000

/-- the slice holds these patterns -/
def Gss (w : World) (v : Value) (ls : List (List Sg)) : Prop :=
  ∃ A cap, v = .slice A ls.length cap ∧ ls.length ≤ cap ∧ (A = none → cap = 0) ∧ ∀ i, i < ls.length → ∃ b o u, A = some ⟨b, o, none⟩ ∧ w.cell? ⟨b, o + i, none⟩ = some u ∧ Gs w u (ls.getD i default)
theorem Gss.call {w w' : World} {v : Value} {ls : List (List Sg)} (h : Gss w v ls) (hb : Below w.heap.size w w') : Gss w' v ls := by
  obtain ⟨A, cap, h1, h2, h3, h4⟩ := h
  refine ⟨A, cap, h1, h2, h3, fun i hi => ?_⟩
  obtain ⟨b, o, u, ha, hc, hd⟩ := h4 i hi
  exact ⟨b, o, u, ha, by rw [hb.cell (World.block_lt_of_cell? w _ hc)]; exact hc, hd.call hb⟩
theorem Gss.drN {w w' : World} {v : Value} {ls : List (List Sg)} (h : Gss w v ls) (hw : ∃ q, w' = w.drewN q) : Gss w' v ls := by
  obtain ⟨q, rfl⟩ := hw
  exact h
theorem gss_nil (w : World) : Gss w (.slice none 0 0) [] := ⟨none, 0, rfl, by simp, fun _ => rfl, fun i hi => by simp at hi⟩
theorem Gss.shape {w : World} {v : Value} {ls : List (List Sg)} (h : Gss w v ls) : ∃ A n c, v = .slice A n c := by
  obtain ⟨A, cap, e, _⟩ := h
  exact ⟨_, _, _, e⟩
/-- all are of a length that a slice may have -/
def Few (ls : List (List Sg)) : Prop := ∀ l ∈ ls, l.length ≤ 1000000000
theorem Few.at {ls : List (List Sg)} (h : Few ls) (i : Nat) : (ls.getD i default).length ≤ 1000000000 := by
  by_cases hi : i < ls.length
  · exact h _ (getD_mem ls i hi)
  · have : ls.getD i default = [] := by simp [List.getD, List.getElem?_eq_none (show ls.length ≤ i by omega)]; rfl
    rw [this]
    simp

end Go.Proofs.YtnnmbpghkflepaaGreatDoor
