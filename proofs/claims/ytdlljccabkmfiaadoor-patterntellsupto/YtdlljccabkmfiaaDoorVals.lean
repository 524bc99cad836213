/-
  The values of what is matched are short.
-/
import Derived.Test.YtdlljccabkmfiaaDoorTake
import Derived.Test.YtdlljccabkmfiaaDoorBackP
namespace Go.Proofs.YtdlljccabkmfiaaDoor
open Go.PlainAid

theorem jnT_size (l : List ByteArray) (h : ∀ s ∈ l, s.size ≤ 64) (hl : l.length ≤ 8) : (jnT l).size ≤ 2000 := by
  rw [jnT, st_size]
  have := jnL_len 192 (l.map (fun s => encL (bs s))) (by
    intro x hx
    rw [List.mem_map] at hx
    obtain ⟨s, hs, rfl⟩ := hx
    have h1 := encL_len (bs s)
    have h2 := h s hs
    rw [bs_len] at h1
    omega)
  rw [List.length_map] at this
  omega
theorem tl_size (g : Sg) (t : List ByteArray) (h : ∀ s ∈ t, s.size ≤ 64) (hl : t.length ≤ 8) : ∀ p ∈ tlP g t, p.2.size ≤ 2000 := by
  intro p hp
  unfold tlP at hp
  rcases hv : tlV g t with _ | v
  · rw [hv] at hp; simp at hp
  · rw [hv] at hp
    simp at hp
    subst hp
    unfold tlV at hv
    split at hv
    · cases hv; exact jnT_size t h hl
    · split at hv
      · cases hv
      · rename_i h3 h0
        cases hv
        cases t with
        | nil => exact absurd (Or.inr rfl) h0
        | cons a b => have := h a (by simp); simp [List.getD]; omega
theorem mt_vals : ∀ (l : List Sg) (left : List ByteArray) (q : List Pr), mtR l left = some q → (∀ s ∈ left, s.size ≤ 64) → left.length ≤ 8 → ∀ p ∈ q, p.2.size ≤ 2000 := by
  intro l
  induction l with
  | nil =>
    intro left q h _ _ p hp
    rw [mtR] at h
    split at h
    · cases h; cases hp
    · cases h
  | cons g r ih =>
    intro left q h hs hl p hp
    rw [mtR] at h
    rcases ht : tkN g left with _ | n
    · rw [ht] at h; cases h
    · rw [ht] at h
      simp only [Option.map_eq_some_iff] at h
      obtain ⟨q', h1, rfl⟩ := h
      rw [List.mem_append] at hp
      rcases hp with hp | hp
      · exact tl_size g _ (fun s hx => hs s (List.mem_of_mem_take hx)) (by rw [List.length_take]; omega) p hp
      · exact ih _ _ h1 (fun s hx => hs s (List.mem_of_mem_drop hx)) (by rw [List.length_drop]; omega) p hp
end Go.Proofs.YtdlljccabkmfiaaDoor
