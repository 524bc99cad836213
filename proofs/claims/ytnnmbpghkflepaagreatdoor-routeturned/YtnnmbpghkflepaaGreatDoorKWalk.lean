/-
  porticokeep's Segs, walked.
-/
import Derived.Test.YtnnmbpghkflepaaGreatDoorKeep
import Derived.Test.YtnnmbpghkflepaaGreatDoorPat
namespace Go.Proofs.YtnnmbpghkflepaaGreatDoor
open Go.RowKit Go.PlainAid
set_option maxRecDepth 100000

def ksT : List ByteArray := [⟨#[97]⟩, ⟨#[98]⟩, ⟨#[105, 116, 101, 109]⟩, ⟨#[122]⟩, ⟨#[49]⟩, ⟨#[108, 105, 115, 116]⟩]
def lastT : ByteArray := ⟨#[108, 97, 115, 116]⟩
/-- a pattern that numbers make: few segments -/
def KeepG (l : List Sg) : Prop := l.length ≤ 5
def Mid4 (l : List Sg) : Prop := l.length ≤ 4
theorem mid_keep {l : List Sg} (h : Mid4 l) : KeepG l := by unfold Mid4 at h; unfold KeepG; omega
theorem mid_last {l : List Sg} (h : Mid4 l) (n : Int) (_ : n = 2 ∨ n = 3) : KeepG (l ++ [(n, lastT)]) := by unfold Mid4 at h; unfold KeepG; simp; omega
theorem mid_push {l : List Sg} {g : Sg} (h : l.length < 4) : Mid4 (l ++ [g]) := by unfold Mid4; simp; omega
/-- a slice of segments in a block of segments -/
def Gt (w : World) (v : Value) (l : List Sg) : Prop := Gs w v l ∧ ∀ b o n c, v = .slice (some ⟨b, o, none⟩) n c → ∃ cur fz, w.heap[b]? = some (.cells cur 49 fz)
theorem Gt.call {w w' : World} {v : Value} {l : List Sg} (h : Gt w v l) (hb : Below w.heap.size w w') : Gt w' v l := by
  refine ⟨h.1.call hb, fun b o n c e => ?_⟩
  obtain ⟨cur, fz, hk⟩ := h.2 b o n c e
  exact ⟨cur, fz, blk_call hk hb⟩
theorem OwnG.gt {B : Nat} {w0 : World} {v : Value} {xs : List Sg} {w : World} (h : OwnG B w0 v xs w) : Gt w v xs := by
  refine ⟨h.gs, fun b o n c e => ?_⟩
  obtain ⟨_, ⟨rfl, _⟩ | ⟨g, cap, cur, rfl, _, hg, _⟩⟩ := h.1
  · cases e
  · cases e
    exact ⟨cur, _, hg⟩
theorem blk3 {w : World} {b : Nat} {x y z : Value} {t : TypeId} (h : w.heap[b]? = some (.cells #[x, y, z] t (0, 0))) :
    w.cell? ⟨b, 0, none⟩ = some x ∧ w.cell? ⟨b, 1, none⟩ = some y ∧ w.cell? ⟨b, 2, none⟩ = some z := by
  refine ⟨?_, ?_, ?_⟩ <;> rw [blk_cell h] <;> rfl

end Go.Proofs.YtnnmbpghkflepaaGreatDoor
