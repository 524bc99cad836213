/-
  Put together: BackP, Path.
-/
import Derived.Test.YthigandmemifoaaGreatDoorP22
import Derived.Test.YthigandmemifoaaGreatDoorP05
namespace Go.Proofs.YthigandmemifoaaGreatDoor
open Go.PlainAid

/-- the parameters' names -/
def prm (l : List Sg) : List ByteArray := (l.filter (fun g => decide (g.1 ≠ 0))).map (·.2)
theorem prm_cons (g : Sg) (r : List Sg) : prm (g :: r) = (if g.1 ≠ 0 then [g.2] else []) ++ prm r := by
  unfold prm
  by_cases h : g.1 = 0
  · simp [h]
  · simp [h]
theorem prm_append (a b : List Sg) : prm (a ++ b) = prm a ++ prm b := by simp [prm]
theorem prm_take {l : List Sg} (h : rgB l = true) : ∀ k, k ≤ l.length → (prm (l.take k)).Nodup := by
  intro k
  induction k with
  | zero => intro _; simp [prm]
  | succ k ih =>
    intro hk
    have e : l.take (k + 1) = l.take k ++ [l.getD k default] := by
      rw [List.take_add_one]
      simp only [List.getD, List.getElem?_eq_getElem (show k < l.length by omega), Option.toList_some, Option.getD_some]
    rw [e, prm_append, List.nodup_append]
    refine ⟨ih (by omega), ?_, ?_⟩
    · rw [prm_cons]
      split <;> simp [prm]
    · intro a ha b hb e2
      subst e2
      rw [prm_cons] at hb
      have hok := rg_ok h k (by omega)
      rw [okB, Bool.and_eq_true, Bool.and_eq_true] at hok
      have htw := hok.2.2
      split at hb
      · rename_i h0
        simp [prm] at hb
        rw [twB, if_neg h0, Bool.not_eq_true', List.any_eq_false] at htw
        unfold prm at ha
        rw [List.mem_map] at ha
        obtain ⟨g, hg, rfl⟩ := ha
        rw [List.mem_filter] at hg
        have := htw g hg.1
        apply this
        unfold twP
        exact decide_eq_true ⟨of_decide_eq_true hg.2, hb⟩
      · simp [prm] at hb
theorem prm_nodup {l : List Sg} (h : rgB l = true) : (prm l).Nodup := by
  have := prm_take h l.length (Nat.le_refl _)
  rwa [List.take_length] at this

theorem tlP_names (g : Sg) (t : List ByteArray) : (tlP g t).map (·.1) = [] ∨ ((tlP g t).map (·.1) = [g.2] ∧ g.1 ≠ 0) := by
  unfold tlP
  rcases hv : tlV g t with _ | v
  · exact Or.inl rfl
  · refine Or.inr ⟨rfl, ?_⟩
    intro h0
    rw [tlV, if_neg (by omega), if_pos (Or.inl h0)] at hv
    cases hv
theorem mt_names : ∀ (l : List Sg) (left : List ByteArray) (q : List Pr), mtR l left = some q → (q.map (·.1)).Sublist (prm l) := by
  intro l
  induction l with
  | nil =>
    intro left q h
    rw [mtR] at h
    split at h
    · cases h; simp
    · cases h
  | cons g r ih =>
    intro left q h
    rw [mtR] at h
    rcases ht : tkN g left with _ | n
    · rw [ht] at h; cases h
    · rw [ht] at h
      simp only [Option.map_eq_some_iff] at h
      obtain ⟨q', h1, rfl⟩ := h
      have h2 := ih _ _ h1
      rw [List.map_append, prm_cons]
      rcases tlP_names g (left.take n) with e | ⟨e, h0⟩
      · rw [e, List.nil_append]
        exact h2.trans (List.sublist_append_right _ _)
      · rw [e, if_pos h0]
        exact List.Sublist.append (List.Sublist.refl _) h2

theorem enc_no47 (l : List Int) (h : InR l) : ∀ x ∈ encL l, x ≠ 47 := by
  intro x hx
  simp only [encL, List.mem_flatMap] at hx
  obtain ⟨c, hc, hx⟩ := hx
  have hb := h c hc
  unfold encI at hx
  split at hx
  · rename_i hp
    simp at hx
    subst hx
    intro e
    subst e
    revert hp
    decide
  · have h1 := dg_bd (c / 16) (by omega) (by omega)
    have h2 := dg_bd (c % 16) (by omega) (by omega)
    simp at hx
    omega
theorem enc_ne (l : List Int) (h : l ≠ []) : encL l ≠ [] := by
  cases l with
  | nil => exact absurd rfl h
  | cons c r =>
    have e : encL (c :: r) = encI c ++ encL r := rfl
    rw [e]
    unfold encI
    split <;> simp
/-- a rest's value splits into its segments -/
theorem sp_jn (left : List ByteArray) (h : ∀ s ∈ left, 1 ≤ s.size) (hl : left.length ≤ 8) : spO (jnT left) = some left := by
  by_cases h0 : left = []
  · subst h0
    decide +kernel
  · have hR : InR (jnL (left.map (fun s => encL (bs s)))) := by
      have : ∀ ps : List (List Int), (∀ p ∈ ps, InR p) → InR (jnL ps) := by
        intro ps
        induction ps with
        | nil => intro _ x hx; simp [jnL] at hx
        | cons p r ih =>
          intro hp
          cases r with
          | nil => rw [jnL]; exact hp p (by simp)
          | cons y r =>
            rw [jnL]
            intro x hx
            rw [List.mem_append, List.mem_cons] at hx
            rcases hx with hx | rfl | hx
            · exact hp p (by simp) x hx
            · omega
            · exact ih (fun z hz => hp z (by simp at hz ⊢; exact Or.inr hz)) x hx
      apply this
      intro p hp
      rw [List.mem_map] at hp
      obtain ⟨s, _, rfl⟩ := hp
      exact encL_inR (bs_inR s)
    have hb : bs (jnT left) = jnL (left.map (fun s => encL (bs s))) := by rw [jnT, bs_st hR]
    have hs : splL 47 (bs (jnT left)) = left.map (fun s => encL (bs s)) := by
      rw [hb]
      apply splL_jn
      · intro p hp
        rw [List.mem_map] at hp
        obtain ⟨s, _, rfl⟩ := hp
        exact enc_no47 _ (bs_inR s)
      · simpa using h0
    have hN : spN 47 8 (jnT left) = left.map encS := by
      rw [spN, splNL_all 47 8 _ (by rw [hs, List.length_map]; omega), hs, List.map_map]
      rfl
    have hz : ¬ (jnT left).size = 0 := by
      rw [← bs_len, hb]
      match left, h0 with
      | s :: r, _ =>
        have hs1 := h s (by simp)
        have hne : encL (bs s) ≠ [] := enc_ne _ (fun e => by have := bs_len s; rw [e] at this; simp at this; omega)
        have hp := List.length_pos_iff.2 hne
        cases r with
        | nil => simp [jnL]; exact hne
        | cons y r => simp [jnL]
    rw [spO, if_neg hz, hN]
    have ha : (left.map encS).all decB = true := by
      rw [List.all_eq_true]
      intro c hc
      rw [List.mem_map] at hc
      obtain ⟨s, _, rfl⟩ := hc
      rw [decB, encS, bs_st (encL_inR (bs_inR s)), dec_enc (bs_inR s)]
      rfl
    rw [if_pos ha, List.map_map]
    congr 1
    conv => rhs; rw [← List.map_id left]
    apply List.map_congr_left
    intro s _
    show decS (encS s) = s
    rw [decS, encS, bs_st (encL_inR (bs_inR s)), dec_enc (bs_inR s)]
    exact st_bs s

theorem mt_back : ∀ (l : List Sg) (left : List ByteArray) (q ps : List Pr), mtR l left = some q → (∀ p ∈ q, gtF ps p.1 = some p.2) →
    (∀ g ∈ l, g.1 ≠ 0 → (∀ p ∈ q, p.1 ≠ g.2) → gtF ps g.2 = none) → (prm l).Nodup → (∀ g ∈ l, g.1 = 0 ∨ g.1 = 1 ∨ g.1 = 2 ∨ g.1 = 3) → left.length ≤ 8 → (∀ s ∈ left, 1 ≤ s.size) → bdR l ps = some left := by
  intro l
  induction l with
  | nil =>
    intro left q ps h _ _ _ _ _ _
    rw [mtR] at h
    split at h
    · rename_i e; rw [e]; rfl
    · cases h
  | cons g r ih =>
    intro left q ps h hy hn hnd hk hl hs
    rw [mtR] at h
    rcases ht : tkN g left with _ | n
    · rw [ht] at h; cases h
    · rw [ht] at h
      simp only [Option.map_eq_some_iff] at h
      obtain ⟨q', h1, rfl⟩ := h
      rw [prm_cons, List.nodup_append] at hnd
      have hq' : ∀ p ∈ q', p.1 ∈ prm r := fun p hp => (mt_names r _ _ h1).mem (List.mem_map_of_mem hp)
      have hih := ih (left.drop n) q' ps h1 (fun p hp => hy p (by simp [hp])) ?_ hnd.2.1 (fun x hx => hk x (by simp [hx])) (by rw [List.length_drop]; omega) (fun s hx => hs s (List.mem_of_mem_drop hx))
      · have hgv : gvO g ps = some (left.take n) := by
          obtain ⟨g1, g2⟩ := g
          have hk0 := hk (g1, g2) (by simp)
          simp only at hk0
          rcases hk0 with rfl | rfl | rfl | rfl
          · simp only [tkN] at ht
            rw [if_neg (by decide), if_neg (by decide)] at ht
            split at ht
            · cases ht
            · split at ht
              · cases ht
              · rename_i h0 h2
                cases ht
                cases left with
                | nil => exact absurd rfl h0
                | cons a b =>
                  simp [List.getD] at h2
                  simp [gvO, h2]
          · simp only [tkN] at ht
            rw [if_neg (by decide), if_neg (by decide)] at ht
            split at ht
            · cases ht
            · split at ht
              · rename_i h2; exact absurd h2.1 (by decide)
              · rename_i h0 h2
                cases ht
                cases left with
                | nil => exact absurd rfl h0
                | cons a b =>
                  have := hy (g2, a) (by simp [tlP, tlV])
                  simp only at this
                  simp [gvO, this]
          · have ht : some (min left.length 1) = some n := ht
            cases ht
            cases left with
            | nil =>
              have := hn (2, g2) (by simp) (show (2 : Int) ≠ 0 by decide) (by
                intro p hp e
                rw [List.mem_append] at hp
                rcases hp with hp | hp
                · simp [tlP, tlV] at hp
                · exact hnd.2.2 g2 (by simp) g2 (by have := hq' p hp; rw [e] at this; exact this) rfl)
              simp only at this
              simp [gvO, this]
            | cons a b =>
              have := hy (g2, a) (by simp [tlP, tlV])
              simp only at this
              simp [gvO, this]
          · have ht : some left.length = some n := ht
            cases ht
            have := hy (g2, jnT left) (by simp [tlP, tlV])
            simp only at this
            have e : gvO (3, g2) ps = spO (jnT left) := by
              show (match gtF ps g2 with
                | none => if (3 : Int) = 2 then some [] else none
                | some v => if (3 : Int) = 3 then spO v else some [v]) = _
              rw [this]
              rfl
            rw [e, sp_jn left hs hl, List.take_length]
        rw [bdR, hgv, hih]
        simp
      · intro x hx h0 hno
        refine hn x (by simp [hx]) h0 ?_
        intro p hp e
        rw [List.mem_append] at hp
        rcases hp with hp | hp
        · rcases tlP_names g (left.take n) with e2 | ⟨e2, hg0⟩
          · have := List.mem_map_of_mem (f := (·.1)) hp
            rw [e2] at this
            simp at this
          · have h3 := List.mem_map_of_mem (f := (·.1)) hp
            rw [e2] at h3
            simp at h3
            have h4 : x.2 ∈ prm r := by
              unfold prm
              rw [List.mem_map]
              exact ⟨x, List.mem_filter.2 ⟨hx, decide_eq_true h0⟩, rfl⟩
            rw [if_pos hg0] at hnd
            exact hnd.2.2 g.2 (by simp) x.2 h4 (by rw [← h3, e])
        · exact hno p hp e

theorem gt_some {ps : List Pr} {n v : ByteArray} (h : gtF ps n = some v) : (n, v) ∈ ps := by
  unfold gtF at h
  rw [Option.map_eq_some_iff] at h
  obtain ⟨p, hp, rfl⟩ := h
  have h1 := List.mem_of_find?_eq_some hp
  have h2 : p.1 = n := by simpa using List.find?_some hp
  rw [← h2]
  exact h1
theorem gt_ne {ps : List Pr} {n : ByteArray} (h : gtF ps n = none) : ∀ p ∈ ps, p.1 ≠ n := by
  unfold gtF at h
  rw [Option.map_eq_none_iff, List.find?_eq_none] at h
  intro p hp
  simpa using h p hp
theorem gt_none_of {ps : List Pr} {n : ByteArray} (h : ∀ p ∈ ps, p.1 ≠ n) : gtF ps n = none := by
  unfold gtF
  rw [Option.map_eq_none_iff, List.find?_eq_none]
  intro p hp
  simpa using h p hp
theorem nodup_val {x : List Pr} (h : (x.map (·.1)).Nodup) {n a b : ByteArray} (ha : (n, a) ∈ x) (hb : (n, b) ∈ x) : a = b := by
  induction x with
  | nil => cases ha
  | cons p r ih =>
    rw [List.map_cons, List.nodup_cons] at h
    rw [List.mem_cons] at ha hb
    rcases ha with rfl | ha
    · rcases hb with hb | hb
      · simpa using hb.symm
      · exact absurd (List.mem_map_of_mem (f := (·.1)) hb) h.1
    · rcases hb with rfl | hb
      · exact absurd (List.mem_map_of_mem (f := (·.1)) ha) h.1
      · exact ih h.2 ha hb
/-- the same pairs in another order -/
theorem gt_perm {x ps : List Pr} (hnd : (x.map (·.1)).Nodup) (hsub : ∀ p ∈ ps, p ∈ x) (hsup : ∀ p ∈ x, p ∈ ps) : (∀ p ∈ x, gtF ps p.1 = some p.2) ∧ ∀ n, (∀ p ∈ x, p.1 ≠ n) → gtF ps n = none := by
  constructor
  · intro p hp
    rcases hg : gtF ps p.1 with _ | v
    · exact absurd rfl (gt_ne hg p (hsup p hp))
    · have := nodup_val hnd (hsub _ (gt_some hg)) (a := v) (b := p.2) (by exact hp)
      rw [this]
  · intro n h
    exact gt_none_of (fun p hp => h p (hsub p hp))
theorem right_parts {p : List ByteArray} (h : rightB p [] = true) : p.length ≤ 8 ∧ ∀ s ∈ p, 1 ≤ s.size := by
  rw [rightB, Bool.and_eq_true, Bool.and_eq_true, List.all_eq_true] at h
  exact ⟨(of_decide_eq_true h.1).1, fun s hs => (of_decide_eq_true (h.2.1 s hs)).1⟩
theorem sm_of {x ps : List Pr} (hl : x.length = ps.length) (h : ∀ p ∈ x, p ∈ ps) : smB x ps = true := by
  rw [smB, decide_eq_true hl, Bool.true_and, List.all_eq_true]
  intro p hp
  rw [List.any_eq_true]
  exact ⟨p, h p hp, decide_eq_true rfl⟩
/-- what is matched is built again, of its parameters in whatever order -/
theorem bd_back {l : List Sg} {path : List ByteArray} {x ps : List Pr} (hr : rgB l = true) (hp : rightB path [] = true) (hm : mtR l path = some x) (hsub : ∀ p ∈ ps, p ∈ x) (hsup : ∀ p ∈ x, p ∈ ps) :
    bdR l ps = some path ∧ (x.length = ps.length → bdB l ps = true ∧ bdL l ps = path) ∧ (x.length ≠ ps.length → bdB l ps = false) := by
  have hnd : (x.map (·.1)).Nodup := (mt_names l path x hm).nodup (prm_nodup hr)
  obtain ⟨g1, g2⟩ := gt_perm hnd hsub hsup
  obtain ⟨r1, r2⟩ := right_parts hp
  have hb : bdR l ps = some path := mt_back l path x ps hm g1 (fun g _ _ h => g2 g.2 h) (prm_nodup hr) (fun g hg => (ok_parts hr hg).2) r1 r2
  have hmb : mtB l path = true := by rw [mtB, mtO, if_pos hr, hm]; rfl
  have hml : mtL l path = x := by rw [mtL, mtO, if_pos hr, hm]; rfl
  refine ⟨hb, fun hl => ?_, fun hl => ?_⟩
  · have hs : (rightB path [] && (mtB l path && smB (mtL l path) ps)) = true := by rw [hp, hmb, hml, sm_of hl hsup]; rfl
    rw [bdB, bdL, bdO, if_pos hr, hb]
    simp only [hs]
    exact ⟨rfl, rfl⟩
  · have hs : (rightB path [] && (mtB l path && smB (mtL l path) ps)) = false := by
      rw [hml, smB, decide_eq_false hl]
      simp
    rw [bdB, bdO, if_pos hr, hb]
    simp only [hs]
    rfl
theorem bd_congr : ∀ (l : List Sg) (ps qs : List Pr), (∀ g ∈ l, g.1 ≠ 0 → gtF ps g.2 = gtF qs g.2) → bdR l ps = bdR l qs := by
  intro l
  induction l with
  | nil => intro ps qs _; rfl
  | cons g r ih =>
    intro ps qs h
    have e : gvO g ps = gvO g qs := by
      unfold gvO
      by_cases h0 : g.1 = 0
      · rw [if_pos h0, if_pos h0]
      · rw [if_neg h0, if_neg h0, h g (by simp) h0]
    rw [bdR, bdR, e, ih ps qs (fun x hx => h x (by simp [hx]))]
theorem gt_app (x : List Pr) (p : Pr) (n : ByteArray) (h : gtF x n = none → p.1 ≠ n) : gtF (x ++ [p]) n = gtF x n := by
  rcases hg : gtF x n with _ | v
  · apply gt_none_of
    intro q hq
    rw [List.mem_append, List.mem_singleton] at hq
    rcases hq with hq | rfl
    · exact gt_ne hg q hq
    · exact h hg
  · unfold gtF at hg ⊢
    rw [Option.map_eq_some_iff] at hg
    obtain ⟨q, hq, rfl⟩ := hg
    rw [List.find?_append, hq]
    rfl
/-- one more isn't built -/
theorem bd_more {l : List Sg} {path : List ByteArray} {x : List Pr} (hr : rgB l = true) (hp : rightB path [] = true) (hm : mtR l path = some x) (p : Pr) (h : ∀ g ∈ l, g.1 ≠ 0 → gtF x g.2 = none → p.1 ≠ g.2) : bdB l (x ++ [p]) = false := by
  have hb : bdR l (x ++ [p]) = some path := by
    rw [bd_congr l (x ++ [p]) x (fun g hg h0 => gt_app x p g.2 (h g hg h0))]
    exact (bd_back hr hp hm (fun _ h => h) (fun _ h => h)).1
  have hml : mtL l path = x := by rw [mtL, mtO, if_pos hr, hm]; rfl
  have hs : (rightB path [] && (mtB l path && smB (mtL l path) (x ++ [p]))) = false := by
    rw [hml, smB, decide_eq_false (by simp)]
    simp
  rw [bdB, bdO, if_pos hr, hb]
  simp only [hs]
  rfl
theorem bd_none1 {l : List Sg} {path : List ByteArray} {x : List Pr} (hr : rgB l = true) (hp : rightB path [] = true) (hm : mtR l path = some x) (hn : ∀ g ∈ l, g.1 = 0 ∨ g.2 ≠ ⟨#[110, 111, 110, 101]⟩) (v : ByteArray) : bdB l (x ++ [(⟨#[110, 111, 110, 101]⟩, v)]) = false :=
  bd_more hr hp hm _ (fun g hg h0 _ e => (hn g hg).elim h0 (fun h => h e.symm))
theorem bd_twice {l : List Sg} {path : List ByteArray} {x : List Pr} (hr : rgB l = true) (hp : rightB path [] = true) (hm : mtR l path = some x) (p : Pr) (hpx : p ∈ x) : bdB l (x ++ [p]) = false :=
  bd_more hr hp hm p (fun _ _ _ h => gt_ne h p hpx)
end Go.Proofs.YthigandmemifoaaGreatDoor

namespace Go.Proofs.YthigandmemifoaaGreatDoor
open Go.PlainAid

def wd (n : Nat) : ByteArray := wordsL.getD n default
/-- what a segment puts into the path -/
def sgP (g : Sg) (n : Nat) (drop : Bool) : List ByteArray :=
  if g.1 = 0 then [g.2] else if g.1 = 1 then [wd n] else if drop then [] else if g.1 = 2 then [wd n] else if g.1 = 3 then [wd n, wd ((n + 3) % 12)] else []
/-- a path of a pattern -/
inductive PathR (drop : Bool) : List Sg → List ByteArray → Prop
  | nil : PathR drop [] []
  | snoc {l : List Sg} {xs : List ByteArray} (h : PathR drop l xs) (g : Sg) (n : Nat) (hn : n < 12) : PathR drop (l ++ [g]) (xs ++ sgP g n drop)

theorem wd_name (n : Nat) (h : n < 12) : nameB (wd n) = true := by
  have hh : ∀ i : Fin 12, nameB (wd i.val) = true := by decide +kernel
  exact hh ⟨n, h⟩
theorem sgP_name (g : Sg) (n : Nat) (drop : Bool) (hn : n < 12) (hg : txB g.2 = true) : ∀ s ∈ sgP g n drop, nameB s = true := by
  have h3 : (n + 3) % 12 < 12 := Nat.mod_lt _ (by omega)
  intro s hs
  unfold sgP at hs
  split at hs
  · simp at hs
    subst hs
    have := (tx_all hg).1
    exact decide_eq_true ⟨this.1, by omega⟩
  · split at hs
    · simp at hs; subst hs; exact wd_name n hn
    · split at hs
      · simp at hs
      · split at hs
        · simp at hs; subst hs; exact wd_name n hn
        · split at hs
          · simp at hs
            rcases hs with rfl | rfl
            · exact wd_name n hn
            · exact wd_name _ h3
          · simp at hs
theorem sgP_len (g : Sg) (n : Nat) (drop : Bool) : (sgP g n drop).length ≤ 2 ∧ (g.1 = 0 ∨ g.1 = 1 → (sgP g n drop).length = 1) := by
  unfold sgP
  constructor
  · split
    · simp
    · split
      · simp
      · split
        · simp
        · split
          · simp
          · split <;> simp
  · intro h
    rcases h with h | h
    · rw [if_pos h]; rfl
    · rw [if_neg (by omega), if_pos h]; rfl
theorem mt_append : ∀ (l m : List Sg) (xs ys : List ByteArray) (q : List Pr), (∀ g ∈ l, g.1 = 0 ∨ g.1 = 1) → mtR l xs = some q → mtR (l ++ m) (xs ++ ys) = (mtR m ys).map (q ++ ·) := by
  intro l
  induction l with
  | nil =>
    intro m xs ys q _ h
    rw [mtR] at h
    split at h
    · rename_i e
      subst e
      cases h
      simp
    · cases h
  | cons g r ih =>
    intro m xs ys q hk h
    have hg := hk g (by simp)
    rw [mtR] at h
    rcases ht : tkN g xs with _ | n
    · rw [ht] at h; cases h
    · rw [ht] at h
      simp only [Option.map_eq_some_iff] at h
      obtain ⟨q', h1, rfl⟩ := h
      have hx : n = 1 ∧ xs ≠ [] ∧ (g.1 = 0 → xs.getD 0 default = g.2) := by
        unfold tkN at ht
        rw [if_neg (by omega), if_neg (by omega)] at ht
        split at ht
        · cases ht
        · split at ht
          · cases ht
          · rename_i h0 h2
            cases ht
            exact ⟨rfl, h0, fun e => Classical.byContradiction (fun hc => h2 ⟨e, hc⟩)⟩
      obtain ⟨rfl, hne, h0⟩ := hx
      cases xs with
      | nil => exact absurd rfl hne
      | cons a b =>
        have ht2 : tkN g (a :: (b ++ ys)) = some 1 := by
          unfold tkN
          rw [if_neg (by omega), if_neg (by omega), if_neg (by simp), if_neg]
          rintro ⟨e1, e2⟩
          exact e2 (by simpa [List.getD] using h0 e1)
        have h1 : mtR r b = some q' := h1
        rw [List.cons_append, List.cons_append, mtR, ht2]
        show (mtR (r ++ m) (b ++ ys)).map (fun q => tlP g [a] ++ q) = _
        rw [ih m b ys q' (fun x hx => hk x (by simp [hx])) h1, Option.map_map]
        congr 1
        funext z
        show tlP g [a] ++ (q' ++ z) = tlP g [a] ++ q' ++ z
        rw [List.append_assoc]
theorem mt_last (g : Sg) (n : Nat) (drop : Bool) (hk : g.1 = 0 ∨ g.1 = 1 ∨ g.1 = 2 ∨ g.1 = 3) : ∃ q, mtR [g] (sgP g n drop) = some q := by
  obtain ⟨g1, g2⟩ := g
  simp only at hk
  rcases hk with rfl | rfl | rfl | rfl
  · exact ⟨_, by simp [mtR, sgP, tkN]; rfl⟩
  · exact ⟨_, by simp [mtR, sgP, tkN]; rfl⟩
  · cases drop
    · exact ⟨_, by simp [mtR, sgP, tkN]; rfl⟩
    · exact ⟨_, by simp [mtR, sgP, tkN]; rfl⟩
  · cases drop
    · exact ⟨_, by simp [mtR, sgP, tkN]; rfl⟩
    · exact ⟨_, by simp [mtR, sgP, tkN]; rfl⟩
theorem path_mt {drop : Bool} {L : List Sg} {xs : List ByteArray} (h : PathR drop L xs) (hk : ∀ g ∈ L, g.1 = 0 ∨ g.1 = 1 ∨ g.1 = 2 ∨ g.1 = 3) (hl : ∀ i, i + 1 < L.length → (L.getD i default).1 = 0 ∨ (L.getD i default).1 = 1) : ∃ q, mtR L xs = some q := by
  induction h with
  | nil => exact ⟨[], rfl⟩
  | @snoc l xs h g n hn ih =>
    have hpre : ∀ x ∈ l, x.1 = 0 ∨ x.1 = 1 := by
      intro x hx
      obtain ⟨i, hi, rfl⟩ := List.getElem_of_mem hx
      have := hl i (by simp; omega)
      have e : (l ++ [g]).getD i default = l[i] := by
        simp only [List.getD]
        rw [List.getElem?_append_left hi]
        simp [hi]
      rwa [e] at this
    obtain ⟨q, hq⟩ := ih (fun x hx => hk x (by simp [hx])) (fun i hi => by
      have := hl i (by simp; omega)
      have e : (l ++ [g]).getD i default = l.getD i default := by
        simp only [List.getD]
        rw [List.getElem?_append_left (by omega)]
      rwa [e] at this)
    obtain ⟨q2, hq2⟩ := mt_last g n drop (hk g (by simp))
    exact ⟨q ++ q2, by rw [mt_append l [g] xs _ q hpre hq, hq2]; rfl⟩
theorem rg_pre {L : List Sg} (h : rgB L = true) (i : Nat) (hi : i + 1 < L.length) : (L.getD i default).1 = 0 ∨ (L.getD i default).1 = 1 := by
  have := rg_ok h i (by omega)
  rw [okB, Bool.and_eq_true] at this
  have h1 := this.1
  rw [decide_eq_false (by omega)] at h1
  unfold stB at h1
  split at h1
  · assumption
  · split at h1 <;> cases h1
theorem path_len {drop : Bool} {L : List Sg} {xs : List ByteArray} (h : PathR drop L xs) : xs.length ≤ 2 * L.length := by
  induction h with
  | nil => simp
  | @snoc l xs h g n hn ih =>
    have := (sgP_len g n drop).1
    simp
    omega
theorem path_len1 {drop : Bool} {L : List Sg} {xs : List ByteArray} (h : PathR drop L xs) (hk : ∀ g ∈ L, g.1 = 0 ∨ g.1 = 1) : xs.length = L.length := by
  induction h with
  | nil => rfl
  | @snoc l xs h g n hn ih =>
    have h1 := ih (fun x hx => hk x (by simp [hx]))
    have h2 := (sgP_len g n drop).2 (hk g (by simp))
    simp
    omega
theorem path_names {drop : Bool} {L : List Sg} {xs : List ByteArray} (h : PathR drop L xs) (ht : ∀ g ∈ L, txB g.2 = true) : ∀ s ∈ xs, nameB s = true := by
  induction h with
  | nil => intro s hs; cases hs
  | @snoc l xs h g n hn ih =>
    intro s hs
    rw [List.mem_append] at hs
    rcases hs with hs | hs
    · exact ih (fun x hx => ht x (by simp [hx])) s hs
    · exact sgP_name g n drop hn (ht g (by simp)) s hs
/-- such a path is right, and it is matched -/
theorem path_right {drop : Bool} {L : List Sg} {xs : List ByteArray} (h : PathR drop L xs) (hr : rgB L = true) (h5 : L.length ≤ 5) : rightB xs [] = true ∧ ∃ q, mtR L xs = some q := by
  refine ⟨?_, path_mt h (fun g hg => (ok_parts hr hg).2) (rg_pre hr)⟩
  have hlen : xs.length ≤ 8 := by
    cases h with
    | nil => simp
    | @snoc l ys h g n hn =>
      have h1 := path_len1 h (by
        intro x hx
        obtain ⟨i, hi, rfl⟩ := List.getElem_of_mem hx
        have := rg_pre hr i (by simp; omega)
        have e : (l ++ [g]).getD i default = l[i] := by
          simp only [List.getD]
          rw [List.getElem?_append_left hi]
          simp [hi]
        rwa [e] at this)
      have h2 := (sgP_len g n drop).1
      simp at h5 ⊢
      omega
  rw [rightB, decide_eq_true ⟨hlen, by simp⟩, Bool.true_and, Bool.and_eq_true, List.all_eq_true]
  exact ⟨path_names h (fun g hg => (ok_parts hr hg).1), rfl⟩
end Go.Proofs.YthigandmemifoaaGreatDoor
