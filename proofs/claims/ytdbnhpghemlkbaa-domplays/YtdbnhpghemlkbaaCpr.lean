/-
  Copy: the copied dom under way. No walk.
-/
import Derived.Test.YtdbnhpghemlkbaaMex
import Derived.Test.YtdbnhpghemlkbaaFld
namespace Go.Proofs.Ytdbnhpghemlkbaa
open Go.RowKit Go.PlainAid Dm
set_option maxRecDepth 100000

/-- the first dom's rows keep their roles; its own blocks have none; the new ones have theirs -/
def mixRo (ro : Ros) (base D2 N2 : Nat) (fv2 : Value) : Ros := fun k => if k = D2 then 1 else if k = N2 then 2 else if fv2.ownBlock = some k then 3 else if k < base ∧ 4 ≤ ro k then ro k else 0
section
variable {ro : Ros} {w : World} {D N c : Nat} {fv : Value} {av kv : Nat → Value} {s : St}
theorem copy_start (h : Rel mP ro w D N c fv av kv s) {w' : World} (hb : Below w.heap.size w w') {nv fv2 : Value} {xs : List Value} (hn : w'.ownsRow w.heap.size 60 7 nv (s.top + 1) xs) (hx : ∀ i, i ≤ s.top → ∀ j, j < 7 → xs[i * 7 + j]? = (ndC mP (s.nd i) (av i) (kv i))[j]?)
    (hf : w'.ownsRow w.heap.size 3 1 fv2 s.freed.reverse.length (niC s.freed.reverse)) (hne : ∀ g, nv.ownBlock = some g → fv2.ownBlock ≠ some g) :
    ∃ N2 c2, nv = .slice (some ⟨N2, 0, none⟩) (s.top + 1) c2 ∧ w.heap.size ≤ N2 ∧ Rel mP (mixRo ro w.heap.size w'.heap.size N2 fv2) (w'.alloc (.cells #[nv, fv2] 63 (0, 0))) w'.heap.size N2 c2 fv2 av kv s := by
  rcases hn.2 with ⟨_, h0⟩ | ⟨g, cap, cur, rfl, h1, h2, h3, h4, h5, h6⟩
  · omega
  have hg : g < w'.heap.size := (Array.getElem?_eq_some_iff.1 h2).1
  have hfl : ∀ k, fv2.ownBlock = some k → w.heap.size ≤ k ∧ k < w'.heap.size := fun k e => hf.lt k e
  have hfg : fv2.ownBlock ≠ some g := hne g rfl
  have hB := (Below.refl _ w').alloc (Nat.le_refl _) (.cells #[.slice (some ⟨g, 0, none⟩) (s.top + 1) cap, fv2] 63 (0, 0))
  have old : ∀ k, 4 ≤ ro k → mixRo ro w.heap.size w'.heap.size g fv2 k = ro k := fun k hk => by
    have hlt := h.lt k (by omega)
    have hs := hb.size
    unfold mixRo
    rw [if_neg (by omega), if_neg (by omega), if_neg (fun e => by have := (hfl k e).1; omega), if_pos ⟨hlt, hk⟩]
  have same : ∀ k, 4 ≤ ro k → (w'.alloc (.cells #[.slice (some ⟨g, 0, none⟩) (s.top + 1) cap, fv2] 63 (0, 0))).heap[k]? = w.heap[k]? := fun k hk => by
    have hlt := h.lt k (by omega)
    exact (hB.block k (Nat.lt_of_lt_of_le hlt hb.size)).trans (hb.block k hlt)
  refine ⟨g, cap, rfl, h1, ?_, blk_new _ _, ?_, ⟨cur, (hB.block g hg).trans h2, h5, fun i hi j hj => ?_⟩, ⟨h3, h4⟩, ⟨?_, fun k e => ?_⟩, fun i hi => (h.ats i hi).same (fun k e => by rw [old k (by omega), e]) (fun k e => same k (by omega)), fun i hi => (h.ki i hi).same (fun k e => by rw [old k (by omega), e]) (fun k e => same k (by omega)), fun k hk => ?_⟩
  · unfold mixRo
    rw [if_pos rfl]
  · unfold mixRo
    rw [if_neg (by omega), if_pos rfl]
  · rw [← hx i hi j hj, ← h6, List.getElem?_take_of_lt (by omega), Array.getElem?_toList]
  · obtain ⟨q1, q2⟩ := hf
    refine ⟨q1, q2.imp id ?_⟩
    rintro ⟨g2, cap2, cur2, e1, e2, e3, e4⟩
    exact ⟨g2, cap2, cur2, e1, Nat.zero_le _, (hB.block g2 (Array.getElem?_eq_some_iff.1 e3).1).trans e3, e4⟩
  · have := hfl k e
    unfold mixRo
    rw [if_neg (by omega), if_neg (show ¬ k = g from fun e2 => hfg (by rw [← e2]; exact e)), if_pos e]
  · have hsz : (w'.alloc (.cells #[.slice (some ⟨g, 0, none⟩) (s.top + 1) cap, fv2] 63 (0, 0))).heap.size = w'.heap.size + 1 := by simp
    rw [hsz]
    unfold mixRo at hk
    split at hk
    · omega
    · split at hk
      · omega
      · split at hk
        · rename_i e
          have := (hfl k e).2
          omega
        · split at hk
          · rename_i e
            have := hb.size
            omega
          · exact absurd rfl hk
theorem put_self (s : St) (i : Nat) : s.put i (s.nd i) = s := by
  unfold St.put
  congr 1
  funext j
  by_cases e : j = i
  · subst e; simp
  · simp [e]
/-- a new row of the same attributes -/
theorem copyA {M : Mo} (h : Rel M ro w D N c fv av kv s) {i : Nat} (hi : i ≤ s.top) {v : Value} {w1 : World} (hb : Below w.heap.size w w1) (hown : w1.ownsRow w.heap.size 45 2 v (s.nd i).attrs.length ((s.nd i).attrs.flatMap atC)) :
    Rel M (setRo ro v 4) (w1.setCell ⟨N, i * 7 + 4, none⟩ v) D N c fv (up av i v) (up kv i (kv i)) s := by
  have hv : ∀ g, v.ownBlock = some g → ro g = 4 ∨ w.heap.size ≤ g := fun g hg => Or.inr (hown.lt g hg).1
  have hold := setRo_old2 h.lt hv
  have R := h.cell hi (s.nd i) v (kv i) (setRo ro v 4) w1 4 v hold (setRo_lt h.lt hb.size (owns_zero hown)) (hb.block N h.nlt) (fun k h0 _ => hb.block k (h.lt k h0)) (by omega) rfl (fun j hj hne => by
    unfold ndC
    rcases (show j = 0 ∨ j = 1 ∨ j = 2 ∨ j = 3 ∨ j = 5 ∨ j = 6 by omega) with rfl | rfl | rfl | rfl | rfl | rfl <;> rfl) ⟨owns_zero hown, fun g hg => setRo_at g hg⟩ ((h.ki i hi).same (fun k e => (hold k (by omega)).trans e) (fun k e => hb.block k (h.lt k (by omega))))
  rwa [put_self] at R
/-- a new row of the same kids -/
theorem copyK {M : Mo} (h : Rel M ro w D N c fv av kv s) {i : Nat} (hi : i ≤ s.top) {v : Value} {w1 : World} (hb : Below w.heap.size w w1) (hown : w1.ownsRow w.heap.size 3 1 v (s.nd i).kids.length (niC (s.nd i).kids)) :
    Rel M (setRo ro v (5 + i)) (w1.setCell ⟨N, i * 7 + 6, none⟩ v) D N c fv (up av i (av i)) (up kv i v) s := by
  have hv : ∀ g, v.ownBlock = some g → ro g = 5 + i ∨ w.heap.size ≤ g := fun g hg => Or.inr (hown.lt g hg).1
  have hold := setRo_old2 h.lt hv
  have R := h.cell hi (s.nd i) (av i) v (setRo ro v (5 + i)) w1 6 v hold (setRo_lt h.lt hb.size (owns_zero hown)) (hb.block N h.nlt) (fun k h0 _ => hb.block k (h.lt k h0)) (by omega) rfl (fun j hj hne => by
    unfold ndC
    rcases (show j = 0 ∨ j = 1 ∨ j = 2 ∨ j = 3 ∨ j = 4 ∨ j = 5 by omega) with rfl | rfl | rfl | rfl | rfl | rfl <;> rfl) ((h.ats i hi).same (fun k e => (hold k (by omega)).trans e) (fun k e => hb.block k (h.lt k (by omega)))) ⟨owns_zero hown, fun g hg => setRo_at g hg⟩
  rwa [put_self] at R
/-- all that it names is new -/
theorem copy_end {M : Mo} {base : Nat} (h : Rel M ro w D N c fv av kv s) (hD : base ≤ D) (hN : base ≤ N) (hF : ∀ g, fv.ownBlock = some g → base ≤ g) (hA : ∀ i, i ≤ s.top → ∀ g, (av i).ownBlock = some g → base ≤ g) (hK : ∀ i, i ≤ s.top → ∀ g, (kv i).ownBlock = some g → base ≤ g) :
    Rel M (fun k => if k < base then 0 else ro k) w D N c fv av kv s := by
  have up : ∀ k, base ≤ k → (if k < base then 0 else ro k) = ro k := fun k hk => if_neg (by omega)
  refine ⟨(up D hD).trans h.rD, h.bD, (up N hN).trans h.rN, h.bN, h.cap, ⟨h.fr.1, fun g hg => (up g (hF g hg)).trans (h.fr.2 g hg)⟩, fun i hi => ⟨(h.ats i hi).1, fun g hg => (up g (hA i hi g hg)).trans ((h.ats i hi).2 g hg)⟩, fun i hi => ⟨(h.ki i hi).1, fun g hg => (up g (hK i hi g hg)).trans ((h.ki i hi).2 g hg)⟩, fun k hk => ?_⟩
  by_cases e : k < base
  · rw [if_pos e] at hk
    exact absurd rfl hk
  · rw [if_neg e] at hk
    exact h.lt k hk
end
end Go.Proofs.Ytdbnhpghemlkbaa
