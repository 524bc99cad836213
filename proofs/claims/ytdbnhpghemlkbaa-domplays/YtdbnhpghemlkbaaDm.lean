/-
  A dom as a plain state: nodes by their numbers, numbers that were freed; what chapter 12's calls do to it, and what stays. No program.
-/
import Derived.PlainAid
namespace Go.Proofs.Ytdbnhpghemlkbaa.Dm

abbrev Tx := ByteArray
/-- a node -/
structure Nd where
  live : Bool
  tag : Tx
  key : Tx
  text : Tx
  attrs : List (Tx × Tx)
  par : Nat
  kids : List Nat
def nd0 : Nd := ⟨false, ⟨#[]⟩, ⟨#[]⟩, ⟨#[]⟩, [], 0, []⟩
/-- nodes, the greatest number ever given, the freed ones (the last one first) -/
structure St where
  nd : Nat → Nd
  top : Nat
  freed : List Nat
def St.put (s : St) (i : Nat) (n : Nd) : St := { s with nd := fun j => if j = i then n else s.nd j }
def St.new : St := ⟨fun i => if i = 1 then ⟨true, ⟨#[114, 111, 111, 116]⟩, ⟨#[]⟩, ⟨#[]⟩, [], 0, []⟩ else nd0, 1, []⟩
theorem St.put_same (s : St) (i : Nat) (n : Nd) : (s.put i n).nd i = n := by simp [St.put]
theorem St.put_ne (s : St) {i j : Nat} (n : Nd) (h : j ≠ i) : (s.put i n).nd j = s.nd j := by simp [St.put, h]

structure Inv (s : St) : Prop where
  zero : s.nd 0 = nd0
  high : ∀ i, s.top < i → s.nd i = nd0
  root : (s.nd 1).live = true ∧ (s.nd 1).par = 0 ∧ (s.nd 1).tag ≠ ⟨#[]⟩
  dead : ∀ i, (s.nd i).live = false → s.nd i = nd0
  up : ∀ i, (s.nd i).par ≠ 0 → i ∈ (s.nd (s.nd i).par).kids
  down : ∀ i k, k ∈ (s.nd i).kids → (s.nd k).par = i ∧ (s.nd k).live = true
  nodup : ∀ i, (s.nd i).kids.Nodup
  text : ∀ i, (s.nd i).tag = ⟨#[]⟩ → (s.nd i).kids = []
  rank : ∃ (r : Nat → Nat) (R : Nat), (∀ i, r i ≤ R) ∧ ∀ i, (s.nd i).par ≠ 0 → r i < r (s.nd i).par
  free : s.freed.Nodup ∧ ∀ i, i ∈ s.freed ↔ 1 ≤ i ∧ i ≤ s.top ∧ (s.nd i).live = false

theorem inv_new : Inv St.new := by
  have h : ∀ i, i ≠ 1 → St.new.nd i = nd0 := fun i hi => by simp [St.new, hi]
  have h1 : St.new.nd 1 = ⟨true, ⟨#[114, 111, 111, 116]⟩, ⟨#[]⟩, ⟨#[]⟩, [], 0, []⟩ := rfl
  have hk : ∀ i, (St.new.nd i).kids = [] ∧ (St.new.nd i).par = 0 := fun i => by
    by_cases hi : i = 1
    · subst hi; rw [h1]; exact ⟨rfl, rfl⟩
    · rw [h i hi]; exact ⟨rfl, rfl⟩
  refine ⟨h 0 (by omega), fun i hi => h i (by have : St.new.top = 1 := rfl; omega), ⟨rfl, rfl, by rw [h1]; intro e; cases e⟩, fun i hi => ?_, fun i hi => absurd (hk i).2 hi, fun i k hk' => (by rw [(hk i).1] at hk'; cases hk'), fun i => (by rw [(hk i).1]; exact List.nodup_nil), fun i _ => (hk i).1, ⟨fun _ => 0, 0, fun _ => Nat.le_refl _, fun i hi => absurd (hk i).2 hi⟩, List.nodup_nil, fun i => ?_⟩
  · by_cases e : i = 1
    · subst e; rw [h1] at hi; cases hi
    · exact h i e
  · constructor
    · intro hi; cases hi
    · rintro ⟨a, b, c⟩
      have : St.new.top = 1 := rfl
      obtain rfl : i = 1 := by omega
      rw [h1] at c
      cases c

section
variable {s : St}
theorem Inv.live_of_kids (h : Inv s) {i k : Nat} (hk : k ∈ (s.nd i).kids) : (s.nd i).live = true := by
  cases e : (s.nd i).live with
  | true => rfl
  | false => rw [h.dead i e] at hk; cases hk
theorem Inv.par_live (h : Inv s) {i : Nat} (hp : (s.nd i).par ≠ 0) : (s.nd (s.nd i).par).live = true := h.live_of_kids (h.up i hp)
theorem Inv.live_pos (h : Inv s) {i : Nat} (hl : (s.nd i).live = true) : 1 ≤ i ∧ i ≤ s.top := by
  constructor
  · rcases Nat.eq_zero_or_pos i with e | e
    · subst e; rw [h.zero] at hl; cases hl
    · exact e
  · rcases Nat.lt_or_ge s.top i with e | e
    · rw [h.high i e] at hl; cases hl
    · exact e
theorem Inv.par_ne (h : Inv s) {i : Nat} (hp : (s.nd i).par ≠ 0) : (s.nd i).par ≠ i := by
  obtain ⟨r, R, _, hr⟩ := h.rank
  intro e
  have := hr i hp
  rw [e] at this
  omega

/-! a new node -/
def St.fresh (s : St) : Nat := match s.freed with | [] => s.top + 1 | i :: _ => i
def St.make (s : St) (n : Nd) : St := match s.freed with | [] => { s.put (s.top + 1) n with top := s.top + 1 } | i :: r => { s.put i n with freed := r }
theorem Inv.fresh_dead (h : Inv s) : s.nd s.fresh = nd0 ∧ s.fresh ≠ 0 := by
  cases e : s.freed with
  | nil =>
    have e3 : s.fresh = s.top + 1 := by unfold St.fresh; rw [e]
    rw [e3]
    exact ⟨h.high _ (by omega), by omega⟩
  | cons i r =>
    have e3 : s.fresh = i := by unfold St.fresh; rw [e]
    rw [e3]
    have := (h.free.2 i).1 (by rw [e]; simp)
    exact ⟨h.dead i this.2.2, by omega⟩
theorem make_nd (s : St) (n : Nd) : (s.make n).nd = (s.put s.fresh n).nd := by
  unfold St.make St.fresh
  cases s.freed <;> rfl
theorem inv_make (h : Inv s) (n : Nd) (hl : n.live = true) (hp : n.par = 0) (hk : n.kids = []) : Inv (s.make n) := by
  obtain ⟨hd, h0⟩ := h.fresh_dead
  have hd1 : s.fresh ≠ 1 := fun e => by rw [e] at hd; have := h.root.1; rw [hd] at this; cases this
  have hs : (s.make n).nd s.fresh = n := by rw [make_nd, St.put_same]
  have hn : ∀ j, j ≠ s.fresh → (s.make n).nd j = s.nd j := fun j hj => by rw [make_nd, St.put_ne s n hj]
  have hkid : ∀ i k, k ∈ ((s.make n).nd i).kids → i ≠ s.fresh ∧ k ∈ (s.nd i).kids := by
    intro i k hk'
    by_cases e : i = s.fresh
    · rw [e, hs, hk] at hk'; cases hk'
    · rw [hn i e] at hk'; exact ⟨e, hk'⟩
  have hpar : ∀ i, ((s.make n).nd i).par ≠ 0 → i ≠ s.fresh ∧ (s.nd i).par ≠ 0 ∧ (s.nd i).par ≠ s.fresh ∧ ((s.make n).nd i).par = (s.nd i).par := by
    intro i hi
    by_cases e : i = s.fresh
    · rw [e, hs, hp] at hi; exact absurd rfl hi
    · rw [hn i e] at hi ⊢
      refine ⟨e, hi, fun e2 => ?_, rfl⟩
      have := h.up i hi
      rw [e2, hd] at this
      cases this
  refine ⟨by rw [hn 0 (Ne.symm h0)]; exact h.zero, fun i hi => ?_, by rw [hn 1 (Ne.symm hd1)]; exact h.root, fun i hi => ?_, fun i hi => ?_, fun i k hk' => ?_, fun i => ?_, fun i hi => ?_, ?_, ?_⟩
  · have ht : s.top ≤ (s.make n).top ∧ s.fresh ≤ (s.make n).top := by
      unfold St.make St.fresh
      cases e : s.freed with
      | nil => exact ⟨by simp, by simp⟩
      | cons j r => exact ⟨Nat.le_refl _, ((h.free.2 j).1 (by rw [e]; simp)).2.1⟩
    rw [hn i (by omega)]
    exact h.high i (by omega)
  · by_cases e : i = s.fresh
    · rw [e, hs, hl] at hi; cases hi
    · rw [hn i e] at hi ⊢; exact h.dead i hi
  · obtain ⟨e1, e2, e3, e4⟩ := hpar i hi
    rw [e4, hn _ e3]
    exact h.up i e2
  · obtain ⟨e1, e2⟩ := hkid i k hk'
    have := h.down i k e2
    have hne : k ≠ s.fresh := fun e => by rw [e, hd] at this; cases this.2
    rw [hn k hne]
    exact this
  · by_cases e : i = s.fresh
    · rw [e, hs, hk]; exact List.nodup_nil
    · rw [hn i e]; exact h.nodup i
  · by_cases e : i = s.fresh
    · rw [e, hs, hk]
    · rw [hn i e] at hi ⊢; exact h.text i hi
  · obtain ⟨r, R, h1, h2⟩ := h.rank
    refine ⟨r, R, h1, fun i hi => ?_⟩
    obtain ⟨_, e2, _, e4⟩ := hpar i hi
    rw [e4]
    exact h2 i e2
  · have hfn := h.free
    have hnd : ∀ i, ((s.make n).nd i).live = false ↔ i ≠ s.fresh ∧ (s.nd i).live = false := by
      intro i
      by_cases e : i = s.fresh
      · subst e; rw [hs, hl]; simp
      · rw [hn i e]; simp [e]
    have key : ∀ i, (1 ≤ i ∧ i ≤ (s.make n).top ∧ ((s.make n).nd i).live = false) ↔ (1 ≤ i ∧ i ≤ (s.make n).top ∧ i ≠ s.fresh ∧ (s.nd i).live = false) := fun i => by rw [hnd i]
    cases e : s.freed with
    | nil =>
      have e1 : (s.make n).freed = [] := by unfold St.make; rw [e]; exact e
      have e2 : (s.make n).top = s.top + 1 := by unfold St.make; rw [e]
      have e3 : s.fresh = s.top + 1 := by unfold St.fresh; rw [e]
      rw [e1]
      refine ⟨List.nodup_nil, fun i => ?_⟩
      rw [key i, e2, e3]
      constructor
      · intro hi; cases hi
      · rintro ⟨a, b, c, d⟩
        have := (hfn.2 i).2 ⟨a, by omega, d⟩
        rw [e] at this
        cases this
    | cons j r =>
      have e1 : (s.make n).freed = r := by unfold St.make; rw [e]
      have e2 : (s.make n).top = s.top := by unfold St.make; rw [e]; rfl
      have e3 : s.fresh = j := by unfold St.fresh; rw [e]
      rw [e] at hfn
      have hnd' := List.nodup_cons.1 hfn.1
      rw [e1]
      refine ⟨hnd'.2, fun i => ?_⟩
      rw [key i, e2, e3]
      have := hfn.2 i
      rw [List.mem_cons] at this
      constructor
      · intro hi
        have h1 := this.1 (Or.inr hi)
        exact ⟨h1.1, h1.2.1, fun e => hnd'.1 (e ▸ hi), h1.2.2⟩
      · rintro ⟨a, b, c, d⟩
        exact (this.2 ⟨a, b, d⟩).resolve_left c

/-- what a node says turned: it stays -/
theorem inv_say (h : Inv s) (i : Nat) (n : Nd) (h1 : n.live = (s.nd i).live) (h2 : n.tag = (s.nd i).tag) (h3 : n.par = (s.nd i).par) (h4 : n.kids = (s.nd i).kids) (hl : (s.nd i).live = true) : Inv (s.put i n) := by
  have hp : ∀ j, ((s.put i n).nd j).live = (s.nd j).live ∧ ((s.put i n).nd j).tag = (s.nd j).tag ∧ ((s.put i n).nd j).par = (s.nd j).par ∧ ((s.put i n).nd j).kids = (s.nd j).kids := by
    intro j
    by_cases e : j = i
    · subst e; rw [St.put_same]; exact ⟨h1, h2, h3, h4⟩
    · rw [St.put_ne s n e]; exact ⟨rfl, rfl, rfl, rfl⟩
  have hd : ∀ j, (s.nd j).live = false → (s.put i n).nd j = s.nd j := fun j hj => St.put_ne s n (fun e => by rw [e, hl] at hj; cases hj)
  have hpos := h.live_pos hl
  refine ⟨by rw [St.put_ne s n (by omega)]; exact h.zero, fun j hj => by rw [St.put_ne s n (by have : (s.put i n).top = s.top := rfl; omega)]; exact h.high j hj, ?_, fun j hj => ?_, fun j hj => ?_, fun j k hk => ?_, fun j => ?_, fun j hj => ?_, ?_, ?_⟩
  · rw [(hp 1).1, (hp 1).2.2.1, (hp 1).2.1]; exact h.root
  · rw [(hp j).1] at hj; rw [hd j hj]; exact h.dead j hj
  · rw [(hp j).2.2.1] at hj ⊢; rw [(hp _).2.2.2]; exact h.up j hj
  · rw [(hp j).2.2.2] at hk; rw [(hp k).2.2.1, (hp k).1]; exact h.down j k hk
  · rw [(hp j).2.2.2]; exact h.nodup j
  · rw [(hp j).2.1] at hj; rw [(hp j).2.2.2]; exact h.text j hj
  · obtain ⟨r, R, a, b⟩ := h.rank
    exact ⟨r, R, a, fun j hj => by rw [(hp j).2.2.1] at hj ⊢; exact b j hj⟩
  · exact ⟨h.free.1, fun j => by rw [(hp j).1]; exact h.free.2 j⟩
end
/-! who holds whom -/
/-- the n-th above -/
def St.anc (s : St) : Nat → Nat → Nat
  | 0, b => b
  | n + 1, b => s.anc n (s.nd b).par
/-- a is b, or holds it -/
def St.holds (s : St) (a b : Nat) : Prop := a ≠ 0 ∧ ∃ n, s.anc n b = a

section
variable {s : St}
theorem holds_self {a : Nat} (h : a ≠ 0) : s.holds a a := ⟨h, 0, rfl⟩
theorem holds_step {a b : Nat} : s.holds a b ↔ (a ≠ 0 ∧ a = b) ∨ s.holds a (s.nd b).par := by
  constructor
  · rintro ⟨h, n, e⟩
    cases n with
    | zero => exact Or.inl ⟨h, e.symm⟩
    | succ n => exact Or.inr ⟨h, n, e⟩
  · rintro (⟨h, rfl⟩ | ⟨h, n, e⟩)
    · exact holds_self h
    · exact ⟨h, n + 1, e⟩
theorem Inv.anc_zero (h : Inv s) (n : Nat) : s.anc n 0 = 0 := by
  induction n with
  | zero => rfl
  | succ n ih => rw [St.anc, h.zero]; exact ih
theorem Inv.not_holds_zero (h : Inv s) (a : Nat) : ¬ s.holds a 0 := by
  rintro ⟨h0, n, e⟩
  rw [h.anc_zero] at e
  exact h0 e.symm
theorem anc_add (s : St) (m n b : Nat) : s.anc (m + n) b = s.anc m (s.anc n b) := by
  induction n generalizing b with
  | zero => rfl
  | succ n ih =>
    show s.anc (m + n) (s.nd b).par = s.anc m (s.anc n (s.nd b).par)
    exact ih _
theorem holds_trans {a b c : Nat} (h1 : s.holds a b) (h2 : s.holds b c) : s.holds a c := by
  obtain ⟨h, m, rfl⟩ := h1
  obtain ⟨_, n, rfl⟩ := h2
  exact ⟨h, m + n, anc_add s m n c⟩
theorem Inv.holds_kid (h : Inv s) {i k : Nat} (hi : i ≠ 0) (hk : k ∈ (s.nd i).kids) : s.holds i k :=
  holds_step.2 (Or.inr (by rw [(h.down i k hk).1]; exact holds_self hi))
/-- the rank falls -/
theorem holds_rank {r : Nat → Nat} (h : Inv s) (hr : ∀ i, (s.nd i).par ≠ 0 → r i < r (s.nd i).par) {a b : Nat} (hh : s.holds a b) : a = b ∨ r b < r a := by
  obtain ⟨h0, n, e⟩ := hh
  induction n generalizing b with
  | zero => exact Or.inl e.symm
  | succ n ih =>
    have e' : s.anc n (s.nd b).par = a := e
    have hp : (s.nd b).par ≠ 0 := by
      intro hz
      rw [hz, h.anc_zero] at e'
      exact h0 e'.symm
    rcases ih e' with h1 | h1
    · right; rw [h1]; exact hr b hp
    · right; exact Nat.lt_trans (hr b hp) h1
theorem Inv.holds_anti (h : Inv s) {a b : Nat} (h1 : s.holds a b) (h2 : s.holds b a) : a = b := by
  obtain ⟨r, R, _, hr⟩ := h.rank
  rcases holds_rank h hr h1 with e | e
  · exact e
  · rcases holds_rank h hr h2 with e2 | e2
    · exact e2.symm
    · omega
theorem Inv.holds_live (h : Inv s) {a b : Nat} (hh : s.holds a b) (hb : (s.nd b).live = true) : (s.nd a).live = true := by
  obtain ⟨h0, n, e⟩ := hh
  induction n generalizing b with
  | zero => subst e; exact hb
  | succ n ih =>
    have e' : s.anc n (s.nd b).par = a := e
    have hp : (s.nd b).par ≠ 0 := by
      intro hz
      rw [hz, h.anc_zero] at e'
      exact h0 e'.symm
    exact ih (h.par_live hp) e'
theorem Inv.holds_down (h : Inv s) {a b : Nat} (hh : s.holds a b) (ha : (s.nd a).live = true) : (s.nd b).live = true := by
  cases hb : (s.nd b).live with
  | true => rfl
  | false =>
    obtain ⟨h0, n, e⟩ := hh
    cases n with
    | zero =>
      have e' : b = a := e
      rw [e', ha] at hb
      cases hb
    | succ n =>
      have e' : s.anc n (s.nd b).par = a := e
      rw [h.dead b hb] at e'
      rw [show nd0.par = 0 from rfl, h.anc_zero] at e'
      exact absurd e'.symm h0

/-! out of its parent -/
def St.out (s : St) (i : Nat) : St :=
  (s.put (s.nd i).par { s.nd (s.nd i).par with kids := (s.nd (s.nd i).par).kids.filter (fun k => decide (k ≠ i)) }).put i { s.nd i with par := 0 }
theorem out_self (s : St) (i : Nat) : (s.out i).nd i = { s.nd i with par := 0 } := St.put_same _ _ _
theorem out_par (s : St) (i : Nat) (h : (s.nd i).par ≠ i) : (s.out i).nd (s.nd i).par = { s.nd (s.nd i).par with kids := (s.nd (s.nd i).par).kids.filter (fun k => decide (k ≠ i)) } := by
  unfold St.out
  rw [St.put_ne _ _ h, St.put_same]
theorem out_ne (s : St) {i j : Nat} (h1 : j ≠ i) (h2 : j ≠ (s.nd i).par) : (s.out i).nd j = s.nd j := by
  unfold St.out
  rw [St.put_ne _ _ h1, St.put_ne _ _ h2]
theorem Inv.out_facts (h : Inv s) {i : Nat} (hp : (s.nd i).par ≠ 0) (j : Nat) :
    ((s.out i).nd j).live = (s.nd j).live ∧ ((s.out i).nd j).tag = (s.nd j).tag ∧ ((s.out i).nd j).par = (if j = i then 0 else (s.nd j).par) ∧ ((s.out i).nd j).kids = (if j = (s.nd i).par then (s.nd j).kids.filter (fun k => decide (k ≠ i)) else (s.nd j).kids) := by
  have hne := h.par_ne hp
  by_cases e1 : j = i
  · subst e1
    rw [out_self, if_pos rfl, if_neg (Ne.symm hne)]
    exact ⟨rfl, rfl, rfl, rfl⟩
  · by_cases e2 : j = (s.nd i).par
    · subst e2
      rw [out_par s i hne, if_neg e1, if_pos rfl]
      exact ⟨rfl, rfl, rfl, rfl⟩
    · rw [out_ne s e1 e2, if_neg e1, if_neg e2]
      exact ⟨rfl, rfl, rfl, rfl⟩
theorem inv_out (h : Inv s) {i : Nat} (hp : (s.nd i).par ≠ 0) : Inv (s.out i) := by
  have F := h.out_facts hp
  have hli : (s.nd i).live = true := by
    cases e : (s.nd i).live with
    | true => rfl
    | false => rw [h.dead i e] at hp; exact absurd rfl hp
  have hlp := h.par_live hp
  have hip := h.live_pos hli
  have hpp := h.live_pos hlp
  have hsame : ∀ j, (s.nd j).live = false → (s.out i).nd j = s.nd j := fun j hj => out_ne s (fun e => by rw [e, hli] at hj; cases hj) (fun e => by rw [e, hlp] at hj; cases hj)
  refine ⟨?_, fun j hj => ?_, ?_, fun j hj => ?_, fun j hj => ?_, fun j k hk => ?_, fun j => ?_, fun j hj => ?_, ?_, ?_⟩
  · rw [out_ne s (by omega) (by omega)]; exact h.zero
  · have ht : (s.out i).top = s.top := rfl
    rw [out_ne s (by omega) (by omega)]; exact h.high j (by omega)
  · obtain ⟨a, b, c⟩ := h.root
    rw [(F 1).1, (F 1).2.1, (F 1).2.2.1]
    refine ⟨a, ?_, c⟩
    split
    · rfl
    · exact b
  · rw [(F j).1] at hj; rw [hsame j hj]; exact h.dead j hj
  · rw [(F j).2.2.1] at hj ⊢
    by_cases e : j = i
    · rw [if_pos e] at hj; exact absurd rfl hj
    · rw [if_neg e] at hj ⊢
      rw [(F _).2.2.2]
      have hu := h.up j hj
      split
      · rw [List.mem_filter]; exact ⟨hu, by simpa using e⟩
      · exact hu
  · rw [(F j).2.2.2] at hk
    have hk' : k ∈ (s.nd j).kids ∧ k ≠ i := by
      split at hk
      · rw [List.mem_filter] at hk; exact ⟨hk.1, by simpa using hk.2⟩
      · refine ⟨hk, fun e => ?_⟩
        rename_i hj
        subst e
        exact hj (h.down j _ hk).1.symm
    rw [(F k).2.2.1, (F k).1, if_neg hk'.2]
    exact h.down j k hk'.1
  · rw [(F j).2.2.2]
    split
    · exact (h.nodup j).filter _
    · exact h.nodup j
  · rw [(F j).2.1] at hj
    rw [(F j).2.2.2, h.text j hj]
    split <;> rfl
  · obtain ⟨r, R, a, b⟩ := h.rank
    refine ⟨r, R, a, fun j hj => ?_⟩
    rw [(F j).2.2.1] at hj ⊢
    split at hj
    · exact absurd rfl hj
    · rename_i e; rw [if_neg e]; exact b j hj
  · exact ⟨h.free.1, fun j => by rw [(F j).1]; exact h.free.2 j⟩

/-! into a parent -/
def insL (l : List Nat) (k c : Nat) : List Nat := l.take k ++ c :: l.drop k
def St.attach (s : St) (p c k : Nat) : St := (s.put p { s.nd p with kids := insL (s.nd p).kids k c }).put c { s.nd c with par := p }
theorem mem_insL {l : List Nat} {k c x : Nat} : x ∈ insL l k c ↔ x = c ∨ x ∈ l := by
  unfold insL
  rw [List.mem_append, List.mem_cons]
  have : x ∈ l ↔ x ∈ l.take k ∨ x ∈ l.drop k := by rw [← List.mem_append, List.take_append_drop]
  rw [this]
  constructor
  · rintro (h | h | h)
    · exact Or.inr (Or.inl h)
    · exact Or.inl h
    · exact Or.inr (Or.inr h)
  · rintro (h | h | h)
    · exact Or.inr (Or.inl h)
    · exact Or.inl h
    · exact Or.inr (Or.inr h)
theorem nodup_insL {l : List Nat} {k c : Nat} (h : l.Nodup) (hc : c ∉ l) : (insL l k c).Nodup := by
  unfold insL
  have h1 : (l.take k ++ l.drop k).Nodup := by rw [List.take_append_drop]; exact h
  have h2 := List.nodup_append.1 h1
  refine List.nodup_append.2 ⟨h2.1, List.nodup_cons.2 ⟨fun e => hc (List.mem_of_mem_drop e), h2.2.1⟩, fun a ha b hb => ?_⟩
  rcases List.mem_cons.1 hb with e | e
  · subst e; intro e2; subst e2; exact hc (List.mem_of_mem_take ha)
  · exact h2.2.2 a ha b e
theorem inv_attach (h : Inv s) {p c : Nat} (k : Nat) (hp : (s.nd p).live = true) (hc : (s.nd c).live = true) (ht : (s.nd p).tag ≠ ⟨#[]⟩) (h0 : (s.nd c).par = 0) (h1 : c ≠ 1) (hh : ¬ s.holds c p) : Inv (s.attach p c k) := by
  have hpp := h.live_pos hp
  have hcp := h.live_pos hc
  have hne : p ≠ c := fun e => hh (e ▸ holds_self (by omega))
  have F : ∀ j, ((s.attach p c k).nd j).live = (s.nd j).live ∧ ((s.attach p c k).nd j).tag = (s.nd j).tag ∧ ((s.attach p c k).nd j).par = (if j = c then p else (s.nd j).par) ∧ ((s.attach p c k).nd j).kids = (if j = p then insL (s.nd p).kids k c else (s.nd j).kids) := by
    intro j
    unfold St.attach
    by_cases e1 : j = c
    · subst e1
      rw [St.put_same, if_pos rfl, if_neg (Ne.symm hne)]
      exact ⟨rfl, rfl, rfl, rfl⟩
    · rw [St.put_ne _ _ e1, if_neg e1]
      by_cases e2 : j = p
      · subst e2
        rw [St.put_same, if_pos rfl]
        exact ⟨rfl, rfl, rfl, rfl⟩
      · rw [St.put_ne _ _ e2, if_neg e2]
        exact ⟨rfl, rfl, rfl, rfl⟩
  have hsame : ∀ j, j ≠ c → j ≠ p → (s.attach p c k).nd j = s.nd j := fun j a b => by unfold St.attach; rw [St.put_ne _ _ a, St.put_ne _ _ b]
  have hnk : c ∉ (s.nd p).kids := fun e => by have := (h.down p c e).1; omega
  refine ⟨hsame 0 (by omega) (by omega) ▸ h.zero, fun j hj => ?_, ?_, fun j hj => ?_, fun j hj => ?_, fun j i hi => ?_, fun j => ?_, fun j hj => ?_, ?_, ?_⟩
  · have ht' : (s.attach p c k).top = s.top := rfl
    rw [hsame j (by omega) (by omega)]; exact h.high j (by omega)
  · rw [(F 1).1, (F 1).2.1, (F 1).2.2.1, if_neg (Ne.symm h1)]; exact h.root
  · rw [(F j).1] at hj
    rw [hsame j (fun e => by rw [e, hc] at hj; cases hj) (fun e => by rw [e, hp] at hj; cases hj)]
    exact h.dead j hj
  · rw [(F j).2.2.1] at hj ⊢
    by_cases e : j = c
    · rw [if_pos e, (F p).2.2.2, if_pos rfl, mem_insL]; exact Or.inl e
    · rw [if_neg e] at hj ⊢
      rw [(F _).2.2.2]
      have hu := h.up j hj
      split
      · rename_i e2; rw [e2] at hu; rw [mem_insL]; exact Or.inr hu
      · exact hu
  · rw [(F j).2.2.2] at hi
    rw [(F i).2.2.1, (F i).1]
    by_cases e : j = p
    · rw [if_pos e, mem_insL] at hi
      rcases hi with e2 | e2
      · rw [if_pos e2, e2, e]; exact ⟨rfl, hc⟩
      · have := h.down p i e2
        rw [if_neg (fun e3 : i = c => hnk (e3 ▸ e2)), e]
        exact this
    · rw [if_neg e] at hi
      have := h.down j i hi
      rw [if_neg (fun e3 => by rw [e3, h0] at this; have hz := this.1; rw [← hz, h.zero] at hi; cases hi)]
      exact this
  · rw [(F j).2.2.2]
    split
    · exact nodup_insL (h.nodup p) hnk
    · exact h.nodup j
  · rw [(F j).2.1] at hj
    rw [(F j).2.2.2]
    split
    · rename_i e; rw [e] at hj; exact absurd hj ht
    · exact h.text j hj
  · obtain ⟨r, R, a, b⟩ := h.rank
    have hd : ∀ j, Decidable (s.holds c j) := fun j => Classical.propDecidable _
    refine ⟨fun j => if s.holds c j then r j else r j + r c + 1, R + R + 1, fun j => ?_, fun j hj => ?_⟩
    · have h1 := a j
      have h2 := a c
      dsimp only
      split <;> omega
    · rw [(F j).2.2.1] at hj ⊢
      dsimp only
      by_cases e : j = c
      · rw [if_pos e, e, if_pos (holds_self (by omega)), if_neg hh]
        omega
      · rw [if_neg e] at hj ⊢
        have hb := b j hj
        have hiff : s.holds c j ↔ s.holds c (s.nd j).par := by
          rw [holds_step]
          constructor
          · rintro (⟨_, e2⟩ | e2)
            · exact absurd e2.symm e
            · exact e2
          · exact Or.inr
        by_cases e3 : s.holds c j
        · rw [if_pos e3, if_pos (hiff.1 e3)]; exact hb
        · rw [if_neg e3, if_neg (fun e4 => e3 (hiff.2 e4))]; omega
  · exact ⟨h.free.1, fun j => by rw [(F j).1]; exact h.free.2 j⟩

/-! a node with all that it holds, in the order in which they are freed -/
/-- the nodes of a row and all that they hold: each one ahead of what it holds -/
inductive Pres (nd : Nat → Nd) : List Nat → List Nat → Prop where
  | nil : Pres nd [] []
  | cons {i : Nat} {ks L1 L2 : List Nat} : Pres nd (nd i).kids L1 → Pres nd ks L2 → Pres nd (i :: ks) (i :: (L1 ++ L2))
theorem Pres.congr {nd nd' : Nat → Nd} {ks L : List Nat} (h : Pres nd ks L) (he : ∀ j ∈ L, (nd' j).kids = (nd j).kids) : Pres nd' ks L := by
  induction h with
  | nil => exact .nil
  | @cons i ks L1 L2 _ _ ih1 ih2 =>
    refine .cons ?_ (ih2 (fun j hj => he j (by simp [hj])))
    rw [he i (by simp)]
    exact ih1 (fun j hj => he j (by simp [hj]))
theorem Pres.unique {nd : Nat → Nd} {ks L : List Nat} (h : Pres nd ks L) : ∀ {L' : List Nat}, Pres nd ks L' → L = L' := by
  induction h with
  | nil => intro L' h'; cases h'; rfl
  | cons _ _ ih1 ih2 =>
    intro L' h'
    cases h' with
    | cons h1 h2 => rw [ih1 h1, ih2 h2]
theorem pres_ex (h : Inv s) : ∀ ks, ∃ L, Pres s.nd ks L := by
  obtain ⟨r, R, hR, hr⟩ := h.rank
  have key : ∀ N ks, (∀ k ∈ ks, r k < N) → ∃ L, Pres s.nd ks L := by
    intro N
    induction N with
    | zero =>
      intro ks hk
      cases ks with
      | nil => exact ⟨[], .nil⟩
      | cons k ks => exact absurd (hk k (by simp)) (by omega)
    | succ N ih =>
      intro ks
      induction ks with
      | nil => intro _; exact ⟨[], .nil⟩
      | cons k ks ihk =>
        intro hk
        obtain ⟨L2, h2⟩ := ihk (fun j hj => hk j (by simp [hj]))
        obtain ⟨L1, h1⟩ := ih (s.nd k).kids (fun j hj => by
          have hp := (h.down k j hj).1
          have hk0 : k ≠ 0 := fun e => by rw [e, h.zero] at hj; cases hj
          have := hr j (by rw [hp]; exact hk0)
          rw [hp] at this
          have := hk k (by simp)
          omega)
        exact ⟨_, .cons h1 h2⟩
  intro ks
  exact key (R + 1) ks (fun k _ => by have := hR k; omega)
/-- below a node: itself, or below one of its kids -/
theorem Inv.holds_cases (h : Inv s) {i j : Nat} (hh : s.holds i j) : j = i ∨ ∃ k ∈ (s.nd i).kids, s.holds k j := by
  obtain ⟨h0, n, e⟩ := hh
  induction n generalizing j with
  | zero => exact Or.inl e
  | succ n ih =>
    have e' : s.anc n (s.nd j).par = i := e
    have hp : (s.nd j).par ≠ 0 := by
      intro hz
      rw [hz, h.anc_zero] at e'
      exact h0 e'.symm
    rcases ih e' with h1 | ⟨k, hk, h1⟩
    · right
      refine ⟨j, ?_, holds_self (fun e => ?_)⟩
      · have := h.up j hp
        rwa [h1] at this
      · rw [e, h.zero] at hp; exact hp rfl
    · exact Or.inr ⟨k, hk, holds_step.2 (Or.inr h1)⟩
theorem Pres.mem (h : Inv s) {ks L : List Nat} (hp : Pres s.nd ks L) : (∀ k ∈ ks, k ≠ 0) → ∀ j, j ∈ L ↔ ∃ k ∈ ks, s.holds k j := by
  induction hp with
  | nil => intro _ j; simp
  | @cons i ks L1 L2 _ _ ih1 ih2 =>
    intro hk j
    have hi : i ≠ 0 := hk i (by simp)
    have hkid : ∀ k ∈ (s.nd i).kids, k ≠ 0 := fun k hk' e => by
      have := (h.down i k hk').2
      rw [e, h.zero] at this
      cases this
    rw [List.mem_cons, List.mem_append, ih1 hkid j, ih2 (fun k hk' => hk k (by simp [hk'])) j]
    constructor
    · rintro (e | ⟨k, a, b⟩ | ⟨k, a, b⟩)
      · exact ⟨i, by simp, by rw [e]; exact holds_self hi⟩
      · exact ⟨i, by simp, holds_trans (h.holds_kid hi a) b⟩
      · exact ⟨k, by simp [a], b⟩
    · rintro ⟨k, a, b⟩
      rcases List.mem_cons.1 a with e | e
      · subst e
        rcases h.holds_cases b with e2 | e2
        · exact Or.inl e2
        · exact Or.inr (Or.inl e2)
      · exact Or.inr (Or.inr ⟨k, e, b⟩)
theorem holds_both {a b j : Nat} (h1 : s.holds a j) (h2 : s.holds b j) : s.holds a b ∨ s.holds b a := by
  obtain ⟨ha, m, e1⟩ := h1
  obtain ⟨hb, n, e2⟩ := h2
  rcases Nat.le_total m n with hmn | hmn
  · right
    refine ⟨hb, n - m, ?_⟩
    rw [← e1, ← anc_add, Nat.sub_add_cancel hmn]
    exact e2
  · left
    refine ⟨ha, m - n, ?_⟩
    rw [← e2, ← anc_add, Nat.sub_add_cancel hmn]
    exact e1
/-- nobody in the row holds another one of it -/
def Apart (s : St) (ks : List Nat) : Prop := ks.Nodup ∧ ∀ a ∈ ks, ∀ b ∈ ks, s.holds a b → a = b
theorem Inv.apart_kids (h : Inv s) (i : Nat) : Apart s (s.nd i).kids := by
  refine ⟨h.nodup i, fun a ha b hb hh => ?_⟩
  have hi : i ≠ 0 := fun e => by rw [e, h.zero] at ha; cases ha
  rcases holds_step.1 hh with ⟨_, e⟩ | h1
  · exact e
  · rw [(h.down i b hb).1] at h1
    have h2 := h.holds_kid hi ha
    have h3 := h.holds_anti h1 h2
    have := (h.down i a ha).1
    rw [h3] at this
    exact absurd this (h.par_ne (by rw [this]; exact hi))
theorem Pres.nodup (h : Inv s) {ks L : List Nat} (hp : Pres s.nd ks L) : (∀ k ∈ ks, k ≠ 0) → Apart s ks → L.Nodup := by
  induction hp with
  | nil => intro _ _; exact List.nodup_nil
  | @cons i ks L1 L2 p1 p2 ih1 ih2 =>
    intro hk ha
    have hi : i ≠ 0 := hk i (by simp)
    have hkid : ∀ k ∈ (s.nd i).kids, k ≠ 0 := fun k hk' e => by
      have := (h.down i k hk').2
      rw [e, h.zero] at this
      cases this
    have hks : ∀ k ∈ ks, k ≠ 0 := fun k hk' => hk k (by simp [hk'])
    have hnc := List.nodup_cons.1 ha.1
    have hap : Apart s ks := ⟨hnc.2, fun a h1 b h2 h3 => ha.2 a (by simp [h1]) b (by simp [h2]) h3⟩
    refine List.nodup_cons.2 ⟨?_, List.nodup_append.2 ⟨ih1 hkid (h.apart_kids i), ih2 hks hap, ?_⟩⟩
    · rw [List.mem_append, p1.mem h hkid i, p2.mem h hks i]
      rintro (⟨k, a, b⟩ | ⟨k, a, b⟩)
      · have h1 := h.holds_anti b (h.holds_kid hi a)
        have := (h.down i k a).1
        rw [h1] at this
        exact h.par_ne (by rw [this]; exact hi) this
      · have := ha.2 k (by simp [a]) i (by simp) b
        exact hnc.1 (this ▸ a)
    · intro x hx y hy exy
      subst exy
      obtain ⟨k, a, b⟩ := (p1.mem h hkid x).1 hx
      obtain ⟨k2, a2, b2⟩ := (p2.mem h hks x).1 hy
      have hik := holds_trans (h.holds_kid hi a) b
      rcases holds_both hik b2 with h3 | h3
      · exact hnc.1 (ha.2 i (by simp) k2 (by simp [a2]) h3 ▸ a2)
      · exact hnc.1 ((ha.2 k2 (by simp [a2]) i (by simp) h3) ▸ a2)

/-- what is left behind Free -/
def St.drop (s : St) (L : List Nat) : St := { nd := fun j => if j ∈ L then nd0 else s.nd j, top := s.top, freed := L.reverse ++ s.freed }
theorem inv_drop (h : Inv s) {i : Nat} (hl : (s.nd i).live = true) (h0 : (s.nd i).par = 0) (h1 : i ≠ 1) {L : List Nat} (hp : Pres s.nd [i] L) : Inv (s.drop L) := by
  have hi := h.live_pos hl
  have hks : ∀ k ∈ [i], k ≠ 0 := fun k hk => by rw [List.mem_singleton] at hk; omega
  have hm : ∀ j, j ∈ L ↔ s.holds i j := fun j => by
    rw [hp.mem h hks j]
    constructor
    · rintro ⟨k, a, b⟩; rw [List.mem_singleton] at a; exact a ▸ b
    · intro hh; exact ⟨i, by simp, hh⟩
  have hN : L.Nodup := hp.nodup h hks ⟨by simp, fun a ha b hb _ => by rw [List.mem_singleton] at ha hb; rw [ha, hb]⟩
  have hlive : ∀ j ∈ L, (s.nd j).live = true := fun j hj => h.holds_down ((hm j).1 hj) hl
  have hin : ∀ j, j ∈ L → (s.drop L).nd j = nd0 := fun j hj => if_pos hj
  have hout : ∀ j, j ∉ L → (s.drop L).nd j = s.nd j := fun j hj => if_neg hj
  have hpar : ∀ j, (s.nd j).par ∈ L → j ∈ L := fun j hj => (hm j).2 (holds_step.2 (Or.inr ((hm _).1 hj)))
  have hkidout : ∀ j k, j ∉ L → k ∈ (s.nd j).kids → k ∉ L := by
    intro j k hj hk hkL
    rcases holds_step.1 ((hm k).1 hkL) with ⟨_, e⟩ | e
    · have := (h.down j k hk).1
      rw [← e, h0] at this
      rw [← this, h.zero] at hk
      cases hk
    · rw [(h.down j k hk).1] at e
      exact hj ((hm j).2 e)
  have h1L : 1 ∉ L := fun e => by
    rcases holds_step.1 ((hm 1).1 e) with ⟨_, e2⟩ | e2
    · exact h1 e2
    · rw [h.root.2.1] at e2; exact h.not_holds_zero _ e2
  refine ⟨?_, fun j hj => ?_, by rw [hout 1 h1L]; exact h.root, fun j hj => ?_, fun j hj => ?_, fun j k hk => ?_, fun j => ?_, fun j hj => ?_, ?_, ?_⟩
  · rw [hout 0 (fun e => by have := hlive 0 e; rw [h.zero] at this; cases this)]; exact h.zero
  · by_cases e : j ∈ L
    · exact hin j e
    · rw [hout j e]; exact h.high j hj
  · by_cases e : j ∈ L
    · exact hin j e
    · rw [hout j e] at hj ⊢; exact h.dead j hj
  · by_cases e : j ∈ L
    · rw [hin j e] at hj; exact absurd rfl hj
    · rw [hout j e] at hj ⊢
      rw [hout _ (fun e2 => e (hpar j e2))]
      exact h.up j hj
  · by_cases e : j ∈ L
    · rw [hin j e] at hk; cases hk
    · rw [hout j e] at hk
      rw [hout k (hkidout j k e hk)]
      exact h.down j k hk
  · by_cases e : j ∈ L
    · rw [hin j e]; exact List.nodup_nil
    · rw [hout j e]; exact h.nodup j
  · by_cases e : j ∈ L
    · rw [hin j e]; rfl
    · rw [hout j e] at hj ⊢; exact h.text j hj
  · obtain ⟨r, R, a, b⟩ := h.rank
    refine ⟨r, R, a, fun j hj => ?_⟩
    by_cases e : j ∈ L
    · rw [hin j e] at hj; exact absurd rfl hj
    · rw [hout j e] at hj ⊢; exact b j hj
  · have hfr := h.free
    show (L.reverse ++ s.freed).Nodup ∧ ∀ j, j ∈ L.reverse ++ s.freed ↔ 1 ≤ j ∧ j ≤ s.top ∧ ((s.drop L).nd j).live = false
    refine ⟨List.nodup_append.2 ⟨List.pairwise_reverse.2 (hN.imp (fun h => Ne.symm h)), hfr.1, fun a ha b hb e => ?_⟩, fun j => ?_⟩
    · have h3 := hlive a (List.mem_reverse.1 ha)
      have h4 := ((hfr.2 b).1 hb).2.2
      rw [e, h4] at h3
      cases h3
    · rw [List.mem_append, List.mem_reverse, hfr.2 j]
      by_cases e : j ∈ L
      · have h3 := h.live_pos (hlive j e)
        rw [hin j e]
        exact ⟨fun _ => ⟨h3.1, h3.2, rfl⟩, fun _ => Or.inl e⟩
      · rw [hout j e]
        exact ⟨fun hh => hh.resolve_left e, fun hh => Or.inr hh⟩

/-! trees -/
inductive Tr where
  | mk (tag key text : Tx) (attrs : List (Tx × Tx)) (kids : List Tr) : Tr
/-- the trees of a row of nodes -/
inductive Trs (nd : Nat → Nd) : List Nat → List Tr → Prop where
  | nil : Trs nd [] []
  | cons {i : Nat} {ks : List Nat} {ts us : List Tr} : Trs nd (nd i).kids ts → Trs nd ks us → Trs nd (i :: ks) (.mk (nd i).tag (nd i).key (nd i).text (nd i).attrs ts :: us)
theorem Trs.unique {nd : Nat → Nd} {ks : List Nat} {ts : List Tr} (h : Trs nd ks ts) : ∀ {us : List Tr}, Trs nd ks us → ts = us := by
  induction h with
  | nil => intro us h'; cases h'; rfl
  | cons _ _ ih1 ih2 =>
    intro us h'
    cases h' with
    | cons h1 h2 => rw [ih1 h1, ih2 h2]
theorem trs_ex (h : Inv s) (ks : List Nat) : ∃ ts, Trs s.nd ks ts := by
  obtain ⟨L, hL⟩ := pres_ex h ks
  induction hL with
  | nil => exact ⟨[], .nil⟩
  | cons _ _ ih1 ih2 =>
    obtain ⟨ts, h1⟩ := ih1
    obtain ⟨us, h2⟩ := ih2
    exact ⟨_, .cons h1 h2⟩

/-! how many live, which are loose -/
def St.ids (s : St) : List Nat := (List.range s.top).map (· + 1)
def St.count (s : St) : Nat := (s.ids.filter (fun i => (s.nd i).live)).length
def St.loose (s : St) : List Nat := s.ids.filter (fun i => (s.nd i).live && (s.nd i).par == 0 && i != 1)

/-! the calls -/
def St.lives (s : St) (id : Int) : Bool := decide (0 < id) && (s.nd id.toNat).live
theorem lives_spec {id : Int} (h : s.lives id = true) : 0 < id ∧ (s.nd id.toNat).live = true ∧ ((id.toNat : Nat) : Int) = id := by
  simp only [St.lives, Bool.and_eq_true, decide_eq_true_eq] at h
  exact ⟨h.1, h.2, by omega⟩
theorem Inv.lives_top (h : Inv s) {id : Int} (hl : s.lives id = true) : id ≤ s.top := by
  obtain ⟨h1, h2, h3⟩ := lives_spec hl
  have := (h.live_pos h2).2
  omega
/-- Attrs: may it, and what is then -/
def St.mayAttrs (s : St) (id : Int) : Prop := s.lives id = true ∧ (s.nd id.toNat).tag ≠ ⟨#[]⟩
def St.setAttrs (s : St) (i : Nat) (l : List (Tx × Tx)) : St := s.put i { s.nd i with attrs := l }
def St.maySay (s : St) (id : Int) : Prop := s.lives id = true ∧ (s.nd id.toNat).tag = ⟨#[]⟩
def St.setText (s : St) (i : Nat) (x : Tx) : St := s.put i { s.nd i with text := x }
theorem inv_setAttrs (h : Inv s) {i : Nat} (hl : (s.nd i).live = true) (l : List (Tx × Tx)) : Inv (s.setAttrs i l) := inv_say h i _ rfl rfl rfl rfl hl
theorem inv_setText (h : Inv s) {i : Nat} (hl : (s.nd i).live = true) (x : Tx) : Inv (s.setText i x) := inv_say h i _ rfl rfl rfl rfl hl
/-- Insert -/
def St.mayInsert (s : St) (p c : Int) : Prop := s.lives p = true ∧ s.lives c = true ∧ (s.nd p.toNat).tag ≠ ⟨#[]⟩ ∧ c ≠ 1 ∧ ¬ s.holds c.toNat p.toNat
def St.loosen (s : St) (c : Nat) : St := if (s.nd c).par = 0 then s else s.out c
/-- at is brought within the row -/
def atN (at_ : Int) (n : Nat) : Nat := if at_ < 0 then 0 else if (n : Int) < at_ then n else at_.toNat
def St.insert (s : St) (p c : Nat) (at_ : Int) : St := (s.loosen c).attach p c (atN at_ ((s.loosen c).nd p).kids.length)
theorem Inv.loosen_facts (h : Inv s) (c j : Nat) : ((s.loosen c).nd j).live = (s.nd j).live ∧ ((s.loosen c).nd j).tag = (s.nd j).tag ∧ ((s.loosen c).nd j).par = (if j = c then 0 else (s.nd j).par) ∧ ((s.loosen c).nd j).kids = (if j = (s.nd c).par then (s.nd j).kids.filter (fun k => decide (k ≠ c)) else (s.nd j).kids) := by
  unfold St.loosen
  by_cases e : (s.nd c).par = 0
  · rw [if_pos e]
    refine ⟨rfl, rfl, ?_, ?_⟩
    · split
      · rename_i e2; rw [e2]; exact e
      · rfl
    · split
      · rename_i e2; rw [e2, e, h.zero]; rfl
      · rfl
  · rw [if_neg e]
    exact h.out_facts e j
theorem inv_loosen (h : Inv s) (c : Nat) : Inv (s.loosen c) := by
  unfold St.loosen
  split
  · exact h
  · rename_i e; exact inv_out h e
theorem holds_loosen (h : Inv s) {a b c : Nat} (hh : (s.loosen c).holds a b) : s.holds a b := by
  obtain ⟨h0, n, e⟩ := hh
  induction n generalizing b with
  | zero => exact ⟨h0, 0, e⟩
  | succ n ih =>
    have e' : (s.loosen c).anc n ((s.loosen c).nd b).par = a := e
    rw [(h.loosen_facts c b).2.2.1] at e'
    by_cases e2 : b = c
    · rw [if_pos e2, (inv_loosen h c).anc_zero] at e'
      exact absurd e'.symm h0
    · rw [if_neg e2] at e'
      exact holds_step.2 (Or.inr (ih e'))
theorem inv_insert (h : Inv s) {p c : Int} (hm : s.mayInsert p c) (at_ : Int) : Inv (s.insert p.toNat c.toNat at_) := by
  obtain ⟨h1, h2, h3, h4, h5⟩ := hm
  obtain ⟨_, l1, _⟩ := lives_spec h1
  obtain ⟨_, l2, e2⟩ := lives_spec h2
  have F := h.loosen_facts c.toNat
  refine inv_attach (inv_loosen h c.toNat) _ ((F _).1.trans l1) ((F _).1.trans l2) (by rw [(F _).2.1]; exact h3) (by rw [(F _).2.2.1, if_pos rfl]) (by omega) (fun e => h5 (holds_loosen h e))
/-- Detach, Free -/
def St.mayDetach (s : St) (id : Int) : Prop := s.lives id = true ∧ (s.nd id.toNat).par ≠ 0
def St.mayFree (s : St) (id : Int) : Prop := s.lives id = true ∧ id ≠ 1 ∧ (s.nd id.toNat).par = 0
theorem inv_detach (h : Inv s) {id : Int} (hm : s.mayDetach id) : Inv (s.out id.toNat) := inv_out h hm.2
theorem inv_free (h : Inv s) {id : Int} (hm : s.mayFree id) {L : List Nat} (hp : Pres s.nd [id.toNat] L) : Inv (s.drop L) := by
  obtain ⟨h1, h2, h3⟩ := hm
  obtain ⟨_, l1, e1⟩ := lives_spec h1
  exact inv_drop h l1 h3 (by omega) hp
/-- a text or an element more -/
def newNd (tag key text : Tx) : Nd := ⟨true, tag, if tag = ⟨#[]⟩ then ⟨#[]⟩ else key, text, [], 0, []⟩
theorem inv_new_node (h : Inv s) (tag key text : Tx) : Inv (s.make (newNd tag key text)) := inv_make h _ rfl rfl rfl

/-! each living node stands once below the Root, or once below one that is loose -/
theorem mem_ids {j : Nat} : j ∈ s.ids ↔ 1 ≤ j ∧ j ≤ s.top := by
  unfold St.ids
  rw [List.mem_map]
  constructor
  · rintro ⟨a, b, rfl⟩
    have := List.mem_range.1 b
    omega
  · rintro ⟨a, b⟩
    exact ⟨j - 1, List.mem_range.2 (by omega), by omega⟩
theorem nodup_ids (s : St) : s.ids.Nodup := by
  unfold St.ids
  exact List.Pairwise.map _ (fun a b h => by intro e; exact h (by omega)) List.nodup_range
theorem Inv.mem_loose (h : Inv s) {j : Nat} : j ∈ s.loose ↔ (s.nd j).live = true ∧ (s.nd j).par = 0 ∧ j ≠ 1 := by
  unfold St.loose
  rw [List.mem_filter, mem_ids]
  simp only [Bool.and_eq_true, beq_iff_eq, bne_iff_ne]
  constructor
  · rintro ⟨_, ⟨a, b⟩, c⟩
    exact ⟨a, b, c⟩
  · rintro ⟨a, b, c⟩
    exact ⟨h.live_pos a, ⟨a, b⟩, c⟩
theorem Inv.mem_live (h : Inv s) {j : Nat} : j ∈ s.ids.filter (fun i => (s.nd i).live) ↔ (s.nd j).live = true := by
  rw [List.mem_filter, mem_ids]
  exact ⟨fun e => e.2, fun e => ⟨h.live_pos e, e⟩⟩
theorem Inv.root_of (h : Inv s) {j : Nat} (hl : (s.nd j).live = true) : ∃ a ∈ 1 :: s.loose, s.holds a j := by
  obtain ⟨r, R, hR, hr⟩ := h.rank
  have key : ∀ N j, R - r j < N → (s.nd j).live = true → ∃ a ∈ 1 :: s.loose, s.holds a j := by
    intro N
    induction N with
    | zero => intro j hj; omega
    | succ N ih =>
      intro j hj hl
      by_cases hp : (s.nd j).par = 0
      · refine ⟨j, ?_, holds_self (by have := h.live_pos hl; omega)⟩
        rw [List.mem_cons]
        by_cases e : j = 1
        · exact Or.inl e
        · exact Or.inr (h.mem_loose.2 ⟨hl, hp, e⟩)
      · have h1 := hr j hp
        have h2 := hR (s.nd j).par
        obtain ⟨a, ha, hh⟩ := ih (s.nd j).par (by omega) (h.par_live hp)
        exact ⟨a, ha, holds_step.2 (Or.inr hh)⟩
  exact key (R + 1) j (by omega) hl
theorem Inv.apart_roots (h : Inv s) : Apart s (1 :: s.loose) := by
  have hp0 : ∀ a ∈ 1 :: s.loose, (s.nd a).par = 0 := by
    intro a ha
    rcases List.mem_cons.1 ha with e | e
    · rw [e]; exact h.root.2.1
    · exact (h.mem_loose.1 e).2.1
  refine ⟨List.nodup_cons.2 ⟨fun e => (h.mem_loose.1 e).2.2 rfl, (nodup_ids s).filter _⟩, fun a _ b hb hh => ?_⟩
  rcases holds_step.1 hh with ⟨_, e⟩ | e
  · exact e
  · rw [hp0 b hb] at e
    exact absurd e (h.not_holds_zero a)
theorem length_le_of_sub {α : Type} [DecidableEq α] {l : List α} (hn : l.Nodup) : ∀ {m : List α}, (∀ x ∈ l, x ∈ m) → l.length ≤ m.length := by
  induction l with
  | nil => intro m _; exact Nat.zero_le _
  | cons a l ih =>
    intro m hm
    have hc := List.nodup_cons.1 hn
    have ham := hm a (by simp)
    have := ih hc.2 (m := m.erase a) (fun x hx => (List.mem_erase_of_ne (fun e : x = a => hc.1 (e ▸ hx))).2 (hm x (by simp [hx])))
    rw [List.length_erase_of_mem ham] at this
    have hpos := List.length_pos_of_mem ham
    simp only [List.length_cons]
    omega
/-- P12.5: all that stands below the Root and below those that are loose: each living node, once -/
theorem Inv.once (h : Inv s) {L : List Nat} (hp : Pres s.nd (1 :: s.loose) L) : L.Nodup ∧ (∀ j, j ∈ L ↔ (s.nd j).live = true) ∧ L.length = s.count := by
  have hk : ∀ k ∈ 1 :: s.loose, k ≠ 0 := by
    intro k hk
    rcases List.mem_cons.1 hk with e | e
    · omega
    · have := h.live_pos (h.mem_loose.1 e).1
      omega
  have hN := hp.nodup h hk h.apart_roots
  have hM : ∀ j, j ∈ L ↔ (s.nd j).live = true := by
    intro j
    rw [hp.mem h hk j]
    constructor
    · rintro ⟨a, ha, hh⟩
      refine h.holds_down hh ?_
      rcases List.mem_cons.1 ha with e | e
      · rw [e]; exact h.root.1
      · exact (h.mem_loose.1 e).1
    · exact h.root_of
  refine ⟨hN, hM, Nat.le_antisymm ?_ ?_⟩
  · exact length_le_of_sub hN (fun x hx => h.mem_live.2 ((hM x).1 hx))
  · exact length_le_of_sub ((nodup_ids s).filter _) (fun x hx => (hM x).2 (h.mem_live.1 hx))

/-! a walk over all, by a stack whose last one is taken off -/
theorem pres_append {nd : Nat → Nd} {k1 k2 L1 L2 : List Nat} (h1 : Pres nd k1 L1) (h2 : Pres nd k2 L2) : Pres nd (k1 ++ k2) (L1 ++ L2) := by
  induction h1 with
  | nil => exact h2
  | cons a _ _ ih =>
    have := Pres.cons a ih
    simpa [List.append_assoc] using this
theorem pres_parts {nd : Nat → Nd} {k1 k2 L : List Nat} (h : Pres nd (k1 ++ k2) L) : ∃ L1 L2, Pres nd k1 L1 ∧ Pres nd k2 L2 ∧ L = L1 ++ L2 := by
  induction k1 generalizing L with
  | nil => exact ⟨[], L, .nil, h, rfl⟩
  | cons k k1 ih =>
    cases h with
    | cons a b =>
      obtain ⟨M1, M2, c1, c2, rfl⟩ := ih b
      exact ⟨_, M2, .cons a c1, c2, by simp⟩
/-- what has been seen, and what stands below the stack: all, each once -/
theorem dfs_step {nd : Nat → Nd} {init V L all : List Nat} {x : Nat} (hp : Pres nd (init ++ [x]) L) (ha : (V ++ L).Perm all) : ∃ L', Pres nd (init ++ (nd x).kids) L' ∧ (x :: V ++ L').Perm all ∧ x ∈ L := by
  obtain ⟨L1, L2, h1, h2, rfl⟩ := pres_parts hp
  cases h2 with
  | cons a b =>
    cases b
    rw [List.append_nil] at ha ⊢
    refine ⟨_, pres_append h1 a, List.Perm.trans ?_ ha, by simp⟩
    rw [← List.append_assoc, ← List.append_assoc]
    exact List.perm_middle.symm

/-! rows of kids -/
theorem take_drop_filter {l : List Nat} (hn : l.Nodup) {f : Nat} (hf : f < l.length) : l.take f ++ l.drop (f + 1) = l.filter (fun k => decide (k ≠ l.getD f 0)) := by
  have hx : l.getD f 0 = l[f] := by simp [List.getD, hf]
  rw [hx]
  have e : l = l.take f ++ l[f] :: l.drop (f + 1) := by
    conv => lhs; rw [← List.take_append_drop f l]
    rw [List.drop_eq_getElem_cons hf]
  have hnn : (l.take f ++ l[f] :: l.drop (f + 1)).Nodup := e ▸ hn
  obtain ⟨_, h2, h3⟩ := List.nodup_append.1 hnn
  have h4 := List.nodup_cons.1 h2
  have g1 : (l.take f).filter (fun k => decide (k ≠ l[f])) = l.take f := List.filter_eq_self.2 (fun a ha => by simpa using h3 a ha l[f] List.mem_cons_self)
  have g2 : (l.drop (f + 1)).filter (fun k => decide (k ≠ l[f])) = l.drop (f + 1) := List.filter_eq_self.2 (fun a ha => by
    simp only [ne_eq, decide_eq_true_eq]
    intro e
    exact h4.1 (e ▸ ha))
  have : l.filter (fun k => decide (k ≠ l[f])) = (l.take f ++ l[f] :: l.drop (f + 1)).filter (fun k => decide (k ≠ l[f])) := by rw [← e]
  rw [this, List.filter_append, List.filter_cons_of_neg (by simp), g1, g2]
end
end Go.Proofs.Ytdbnhpghemlkbaa.Dm
