/-
  Put together: RefBdP, RefDec.
-/
import Derived.Test.YthigandmemifoaaGreatDoorP24
import Derived.Test.YthigandmemifoaaGreatDoorP23
import Derived.Test.YthigandmemifoaaGreatDoorP14
namespace Go.Proofs.YthigandmemifoaaGreatDoor
open Go.PlainAid

/-- is a piece the code of a text that isn't empty? -/
def rpB (x : ByteArray) : Bool := decB x && (decide (¬ decS x = ⟨#[]⟩) && decide (encS (decS x) = x))
def rsO (v : ByteArray) : Option (List ByteArray) := if v.size = 0 then some [] else if (spl 47 v).all rpB then some ((spl 47 v).map decS) else none
def rgO (g : Sg) (ps : List Pr) : Option (List ByteArray × Nat) :=
  if g.1 = 0 then some ([g.2], 0) else match gtF ps g.2 with
    | none => if g.1 = 2 then some ([], 0) else none
    | some v => if g.1 = 3 then (rsO v).map (fun x => (x, 1)) else if v.size = 0 then none else some ([v], 1)
def rbR : List Sg → List Pr → Option (List ByteArray × Nat)
  | [], _ => some ([], 0)
  | g :: r, ps => match rgO g ps with
    | none => none
    | some x => (rbR r ps).map (fun y => (x.1 ++ y.1, x.2 + y.2))
def rbO (l : List Sg) (ps : List Pr) : Option (List ByteArray) :=
  if rgB l then match rbR l ps with
    | none => none
    | some y => if y.2 = ps.length ∧ rightB y.1 [] = true then some y.1 else none
  else none

/-! pieces and what is joined of them -/
theorem rf_splL_jn : ∀ (a : List (List Int)), a ≠ [] → (∀ p ∈ a, ∀ c ∈ p, c ≠ 47) → splL 47 (jnL a) = a := by
  intro a
  induction a with
  | nil => intro h; exact absurd rfl h
  | cons x r ih =>
    intro _ h
    cases r with
    | nil => exact splL_none 47 x (h x (by simp))
    | cons y r' =>
      show splL 47 (x ++ 47 :: jnL (y :: r')) = _
      rw [splL_mark 47 x _ (h x (by simp)), ih (by simp) (fun p hp => h p (by simp only [List.mem_cons] at hp ⊢; exact Or.inr hp))]
theorem rf_jn_splL (l : List Int) : jnL (splL 47 l) = l ∧ splL 47 l ≠ [] ∧ ∀ p ∈ splL 47 l, ∀ c ∈ p, c ≠ 47 := by
  generalize hn : l.length = n
  induction n using Nat.strongRecOn generalizing l with
  | _ n ih =>
    rcases first_mark 47 l with hm | ⟨p, r, rfl, hm⟩
    · rw [splL_none 47 l hm]
      exact ⟨rfl, by simp, fun q hq => by simp at hq; subst hq; exact hm⟩
    · obtain ⟨h1, h2, h3⟩ := ih r.length (by rw [← hn]; simp; omega) r rfl
      rw [splL_mark 47 p r hm]
      refine ⟨?_, by simp, fun q hq => ?_⟩
      · cases hs : splL 47 r with
        | nil => exact absurd hs h2
        | cons a b =>
          show p ++ 47 :: jnL (a :: b) = _
          rw [← hs, h1]
      · rw [List.mem_cons] at hq
        rcases hq with rfl | hq
        · exact hm
        · exact h3 q hq
theorem rf_splL_inR {l : List Int} (h : InR l) : ∀ p ∈ splL 47 l, InR p := by
  generalize hn : l.length = n
  induction n using Nat.strongRecOn generalizing l with
  | _ n ih =>
    rcases first_mark 47 l with hm | ⟨p, r, rfl, hm⟩
    · rw [splL_none 47 l hm]
      intro q hq
      simp at hq
      subst hq
      exact h
    · rw [splL_mark 47 p r hm]
      intro q hq
      rw [List.mem_cons] at hq
      rcases hq with rfl | hq
      · exact fun x hx => h x (by simp [hx])
      · exact ih r.length (by rw [← hn]; simp; omega) (fun x hx => h x (by simp [hx])) rfl q hq
theorem spN_all {v : ByteArray} (h : (spl 47 v).length ≤ 9) : spN 47 8 v = spl 47 v := by
  rw [spN, spl, splNL_all 47 8 _ (by rw [spl, List.length_map] at h; exact h)]
theorem spl_few {v : ByteArray} (h : (spN 47 8 v).length ≤ 8) : (spl 47 v).length ≤ 8 := by
  rw [spN, List.length_map] at h
  rw [spl, List.length_map]
  rcases Nat.lt_or_ge (splL 47 (bs v)).length 9 with h1 | h1
  · omega
  · have := splNL_more 47 8 (bs v) h1
    omega
theorem jn_of_codes {v : ByteArray} (h : ∀ x ∈ spl 47 v, encS (decS x) = x) : jnT ((spl 47 v).map decS) = v := by
  apply bs_inj
  rw [jnT, bs_st (jn_inR _)]
  have e : ((spl 47 v).map decS).map (fun s => encL (bs s)) = splL 47 (bs v) := by
    rw [List.map_map, spl, List.map_map]
    conv => rhs; rw [← List.map_id (splL 47 (bs v))]
    apply List.map_congr_left
    intro p hp
    have h1 := h (st p) (by rw [spl, List.mem_map]; exact ⟨p, hp, rfl⟩)
    have h2 := congrArg bs h1
    rw [encS, bs_st (encL_inR (bs_inR _)), bs_st (rf_splL_inR (bs_inR v) p hp)] at h2
    exact h2
  rw [e, (rf_jn_splL (bs v)).1]
theorem codes_of_jn {v : ByteArray} {x : List ByteArray} (hv : v = jnT x) (hx : x = (spl 47 v).map decS) : ∀ p ∈ spl 47 v, encS (decS p) = p := by
  have hne : x ≠ [] := by
    rw [hx]
    intro e
    have := congrArg List.length e
    rw [List.length_map] at this
    have h1 := spl_ne 47 v
    have h2 : (spl 47 v).length = 0 := this
    omega
  have e1 : splL 47 (bs v) = x.map (fun s => encL (bs s)) := by
    rw [hv, jnT, bs_st (jn_inR _)]
    refine rf_splL_jn _ (by simpa using hne) (fun p hp => ?_)
    rw [List.mem_map] at hp
    obtain ⟨s, _, rfl⟩ := hp
    exact enc_no47 (bs s) (bs_inR s)
  have e2 : spl 47 v = x.map encS := by
    rw [spl, e1, List.map_map]
    rfl
  have e3 : spl 47 v = ((spl 47 v).map decS).map encS := by rw [← hx]; exact e2
  intro p hp
  obtain ⟨i, hi, rfl⟩ := List.getElem_of_mem hp
  have h5 : ((spl 47 v).map decS).map encS = (spl 47 v).map (fun p => encS (decS p)) := by rw [List.map_map]; rfl
  rw [h5] at e3
  have h6 := List.getElem_of_eq e3.symm (by simpa using hi)
  simpa using h6

/-! kinds: those that end stand last -/
def Kin (l : List Sg) : Prop := (∀ g ∈ l, g.1 = 0 ∨ g.1 = 1 ∨ g.1 = 2 ∨ g.1 = 3) ∧ ∀ i, i + 1 < l.length → (l.getD i default).1 = 0 ∨ (l.getD i default).1 = 1
theorem kin_of {l : List Sg} (h : rgB l = true) : Kin l := ⟨fun _ hg => (ok_parts h hg).2, rg_pre h⟩
theorem Kin.tail {g : Sg} {r : List Sg} (h : Kin (g :: r)) : Kin r := by
  refine ⟨fun x hx => h.1 x (by simp [hx]), fun i hi => ?_⟩
  have := h.2 (i + 1) (by simp; omega)
  simpa [List.getD] using this
theorem Kin.last {g : Sg} {r : List Sg} (h : Kin (g :: r)) (hk : g.1 = 2 ∨ g.1 = 3) : r = [] := by
  cases r with
  | nil => rfl
  | cons y r' =>
    have := h.2 0 (by simp)
    simp [List.getD] at this
    omega

theorem mt_c0 (t : ByteArray) (r : List Sg) (y : List ByteArray) : mtR ((0, t) :: r) (t :: y) = mtR r y := by
  rw [mtR, show tkN ((0 : Int), t) (t :: y) = some 1 by rw [tkN, if_neg (by simp), if_neg (by simp), if_neg (by simp), if_neg (by simp)]]
  show (mtR r y).map (fun q => [] ++ q) = _
  simp
theorem mt_c1 (t v : ByteArray) (r : List Sg) (y : List ByteArray) : mtR ((1, t) :: r) (v :: y) = (mtR r y).map (fun q => (t, v) :: q) := by
  rw [mtR, show tkN ((1 : Int), t) (v :: y) = some 1 by rw [tkN, if_neg (by simp), if_neg (by simp), if_neg (by simp), if_neg (by simp)]]
  rfl
theorem mt_c2 (t v : ByteArray) : mtR [(2, t)] [v] = some [(t, v)] := rfl
theorem mt_c2n (t : ByteArray) : mtR [(2, t)] [] = some [] := rfl
theorem mt_c3 (t : ByteArray) (y : List ByteArray) : mtR [(3, t)] y = some [(t, jnT y)] := by
  rw [mtR, show tkN ((3 : Int), t) y = some y.length by rw [tkN, if_neg (by simp), if_pos rfl]]
  simp only [List.drop_length, List.take_length]
  rfl

theorem rs_sp {v : ByteArray} {ys : List ByteArray} (h : rsO v = some ys) (hl : ys.length ≤ 8) : spO v = some ys ∧ jnT ys = v := by
  unfold rsO at h
  split at h
  · rename_i h0
    cases h
    refine ⟨by rw [spO, if_pos h0], ?_⟩
    apply bs_inj
    have : bs v = [] := List.eq_nil_of_length_eq_zero (by rw [bs_len]; exact h0)
    rw [this]
    rfl
  · rename_i h0
    split at h
    · rename_i ha
      cases h
      rw [List.all_eq_true] at ha
      rw [List.length_map] at hl
      have e := spN_all (v := v) (by omega)
      refine ⟨?_, jn_of_codes (fun x hx => ?_)⟩
      · rw [spO, if_neg h0, e, if_pos]
        rw [List.all_eq_true]
        intro x hx
        have := ha x hx
        rw [rpB, Bool.and_eq_true] at this
        exact this.1
      · have := ha x hx
        rw [rpB, Bool.and_eq_true, Bool.and_eq_true] at this
        exact of_decide_eq_true this.2.2
    · cases h
theorem sp_rs {v : ByteArray} {ys : List ByteArray} (h : spO v = some ys) (hl : ys.length ≤ 8) (hs : ∀ s ∈ ys, 1 ≤ s.size) (hv : v = jnT ys) : rsO v = some ys := by
  unfold spO at h
  split at h
  · rename_i h0
    cases h
    rw [rsO, if_pos h0]
  · rename_i h0
    split at h
    · rename_i ha
      have hy : (spN 47 8 v).map decS = ys := by simpa using h
      have hl2 : (spN 47 8 v).length ≤ 8 := by rw [← hy, List.length_map] at hl; exact hl
      have e := spN_all (v := v) (by have := spl_few hl2; omega)
      rw [e] at hy ha
      have hc := codes_of_jn hv hy.symm
      rw [rsO, if_neg h0, if_pos, hy]
      rw [List.all_eq_true] at ha ⊢
      intro x hx
      have h1 : 1 ≤ (decS x).size := hs _ (by rw [← hy, List.mem_map]; exact ⟨x, hx, rfl⟩)
      rw [rpB, ha x hx, decide_eq_true (hc x hx), decide_eq_true]
      · rfl
      · intro e
        rw [e] at h1
        exact absurd h1 (by decide)
    · cases h

theorem rb_fwd : ∀ (l : List Sg) (ps : List Pr) (xs : List ByteArray) (n : Nat), Kin l → rbR l ps = some (xs, n) → xs.length ≤ 8 → bdR l ps = some xs ∧ ∃ q, mtR l xs = some q ∧ q.length = n ∧ ∀ p ∈ q, p ∈ ps := by
  intro l
  induction l with
  | nil =>
    intro ps xs n _ h _
    cases h
    exact ⟨rfl, [], rfl, rfl, by simp⟩
  | cons g r ih =>
    intro ps xs n hk h hl
    obtain ⟨g1, g2⟩ := g
    rw [rbR] at h
    cases hg : rgO (g1, g2) ps with
    | none => rw [hg] at h; cases h
    | some x =>
      rw [hg] at h
      cases hy : rbR r ps with
      | none => rw [hy] at h; cases h
      | some y =>
        rw [hy] at h
        simp only [Option.map_some, Option.some.injEq, Prod.mk.injEq] at h
        obtain ⟨rfl, rfl⟩ := h
        obtain ⟨y1, y2⟩ := y
        simp only [List.length_append] at hl
        obtain ⟨b1, q, b2, b3, b4⟩ := ih ps y1 y2 hk.tail hy (by omega)
        have hkind := hk.1 (g1, g2) (by simp)
        simp only at hkind
        unfold rgO at hg
        rw [bdR]
        rcases hkind with rfl | rfl | rfl | rfl
        · rw [if_pos rfl] at hg
          cases hg
          refine ⟨by rw [gvO, if_pos rfl, b1]; rfl, q, ?_, by simp [b3], b4⟩
          show mtR ((0, g2) :: r) (g2 :: y1) = _
          rw [mt_c0, b2]
        · rw [if_neg (by simp)] at hg
          cases hv : gtF ps g2 with
          | none => rw [hv] at hg; cases hg
          | some v =>
            rw [hv] at hg
            simp only at hg
            rw [if_neg (by simp)] at hg
            split at hg
            · cases hg
            · cases hg
              refine ⟨by rw [gvO, if_neg (by simp), hv]; simp only; rw [if_neg (by simp), b1]; rfl, (g2, v) :: q, ?_, by simp [b3]; omega, ?_⟩
              · show mtR ((1, g2) :: r) (v :: y1) = _
                rw [mt_c1, b2]; rfl
              · intro p hp
                rw [List.mem_cons] at hp
                rcases hp with rfl | hp
                · exact gt_some hv
                · exact b4 p hp
        · obtain rfl := hk.last (Or.inl rfl)
          cases hy
          rw [if_neg (by simp)] at hg
          cases hv : gtF ps g2 with
          | none =>
            rw [hv] at hg
            simp only at hg
            rw [if_pos trivial] at hg
            cases hg
            exact ⟨by rw [gvO, if_neg (by simp), hv]; rfl, [], rfl, rfl, by simp⟩
          | some v =>
            rw [hv] at hg
            simp only at hg
            rw [if_neg (by simp)] at hg
            split at hg
            · cases hg
            · cases hg
              refine ⟨by rw [gvO, if_neg (by simp), hv]; rfl, [(g2, v)], rfl, rfl, ?_⟩
              intro p hp
              rw [List.mem_singleton] at hp
              subst hp
              exact gt_some hv
        · obtain rfl := hk.last (Or.inr rfl)
          cases hy
          rw [if_neg (by simp)] at hg
          cases hv : gtF ps g2 with
          | none => rw [hv] at hg; cases hg
          | some v =>
            rw [hv] at hg
            simp only at hg
            rw [if_pos trivial] at hg
            cases hys : rsO v with
            | none => rw [hys] at hg; cases hg
            | some ys =>
              rw [hys] at hg
              cases hg
              simp only [List.append_nil]
              obtain ⟨e1, e2⟩ := rs_sp hys (by simp at hl; omega)
              refine ⟨by rw [gvO, if_neg (by simp), hv]; simp only; rw [if_pos trivial, e1]; simp [bdR], [(g2, jnT ys)], mt_c3 _ _, rfl, ?_⟩
              intro p hp
              rw [List.mem_singleton] at hp
              subst hp
              rw [e2]
              exact gt_some hv
theorem rb_bwd : ∀ (l : List Sg) (ps : List Pr) (xs : List ByteArray) (q : List Pr), Kin l → bdR l ps = some xs → xs.length ≤ 8 → (∀ s ∈ xs, 1 ≤ s.size) → mtR l xs = some q → (∀ p ∈ q, gtF ps p.1 = some p.2) → rbR l ps = some (xs, q.length) := by
  intro l
  induction l with
  | nil =>
    intro ps xs q _ h _ _ hm _
    cases h
    rw [show mtR [] [] = some [] from rfl] at hm
    cases hm
    rfl
  | cons g r ih =>
    intro ps xs q hk h hl hs hm hu
    obtain ⟨g1, g2⟩ := g
    rw [bdR] at h
    cases hg : gvO (g1, g2) ps with
    | none => rw [hg] at h; cases h
    | some x =>
      rw [hg] at h
      cases hy : bdR r ps with
      | none => rw [hy] at h; cases h
      | some y =>
        rw [hy] at h
        simp only [Option.map_some, Option.some.injEq] at h
        subst h
        have hkind := hk.1 (g1, g2) (by simp)
        simp only at hkind
        unfold gvO at hg
        rw [rbR]
        rw [List.length_append] at hl
        have hsy : ∀ s ∈ y, 1 ≤ s.size := fun s hs' => hs s (by simp [hs'])
        rcases hkind with rfl | rfl | rfl | rfl
        · rw [if_pos rfl] at hg
          cases hg
          have hm : mtR ((0, g2) :: r) (g2 :: y) = some q := hm
          rw [mt_c0] at hm
          rw [rgO, if_pos rfl]
          simp only
          rw [ih ps y q hk.tail hy (by omega) hsy hm hu]
          simp
        · rw [if_neg (by simp)] at hg
          cases hv : gtF ps g2 with
          | none => rw [hv] at hg; cases hg
          | some v =>
            rw [hv] at hg
            simp only at hg
            rw [if_neg (by simp)] at hg
            cases hg
            have hm : mtR ((1, g2) :: r) (v :: y) = some q := hm
            rw [mt_c1] at hm
            cases hq : mtR r y with
            | none => rw [hq] at hm; cases hm
            | some q' =>
              rw [hq] at hm
              cases hm
              have hv1 := hs v (by simp)
              rw [rgO, if_neg (by simp), hv]
              simp only
              rw [if_neg (by simp), if_neg (by omega)]
              simp only
              rw [ih ps y q' hk.tail hy (by omega) hsy hq (fun p hp => hu p (by simp [hp]))]
              simp
              omega
        · obtain rfl := hk.last (Or.inl rfl)
          cases hy
          rw [if_neg (by simp)] at hg
          cases hv : gtF ps g2 with
          | none =>
            rw [hv] at hg
            simp only at hg
            rw [if_pos trivial] at hg
            cases hg
            have hm : mtR [(2, g2)] [] = some q := hm
            rw [mt_c2n] at hm
            cases hm
            rw [rgO, if_neg (by simp), hv]
            rfl
          | some v =>
            rw [hv] at hg
            simp only at hg
            rw [if_neg (by simp)] at hg
            cases hg
            have hm : mtR [(2, g2)] [v] = some q := hm
            rw [mt_c2] at hm
            cases hm
            have hv1 := hs v (by simp)
            rw [rgO, if_neg (by simp), hv]
            simp only
            rw [if_neg (by simp), if_neg (by omega)]
            rfl
        · obtain rfl := hk.last (Or.inr rfl)
          cases hy
          rw [if_neg (by simp)] at hg
          cases hv : gtF ps g2 with
          | none => rw [hv] at hg; cases hg
          | some v =>
            rw [hv] at hg
            simp only at hg
            rw [if_pos trivial] at hg
            simp only [List.append_nil] at hm hs ⊢
            rw [mt_c3] at hm
            cases hm
            have hu1 := hu (g2, jnT x) (by simp)
            simp only at hu1
            rw [hv] at hu1
            cases hu1
            have := sp_rs hg (by simp at hl; omega) hs rfl
            rw [rgO, if_neg (by simp), hv]
            simp only
            rw [if_pos trivial, this]
            simp [rbR]
theorem pig {α : Type} [DecidableEq α] : ∀ (a b : List α), a.Nodup → (∀ x ∈ a, x ∈ b) → a.length = b.length → ∀ x ∈ b, x ∈ a := by
  intro a
  induction a with
  | nil =>
    intro b _ _ hl x hx
    cases b with
    | nil => cases hx
    | cons _ _ => simp at hl
  | cons y r ih =>
    intro b hnd hsub hl x hx
    have hy : y ∈ b := hsub y (by simp)
    rw [List.nodup_cons] at hnd
    by_cases e : x = y
    · subst e; simp
    · have h1 := ih (b.erase y) hnd.2 (fun z hz => (List.mem_erase_of_ne (fun e => hnd.1 (by rw [← e]; exact hz))).2 (hsub z (by simp [hz]))) (by rw [List.length_erase_of_mem hy]; simp at hl; omega) x ((List.mem_erase_of_ne e).2 hx)
      simp [h1]
theorem rb_is (l : List Sg) (ps : List Pr) : rbO l ps = bdO l ps := by
  unfold rbO bdO
  by_cases hr : rgB l = true
  · rw [if_pos hr, if_pos hr]
    have hk := kin_of hr
    cases hb : bdR l ps with
    | none =>
      simp only
      cases hR : rbR l ps with
      | none => rfl
      | some y =>
        obtain ⟨xs, n⟩ := y
        simp only
        rw [if_neg]
        rintro ⟨_, h2⟩
        have := (rb_fwd l ps xs n hk hR (right_parts h2).1).1
        rw [hb] at this
        cases this
    | some path =>
      simp only
      by_cases hc : (rightB path [] && (mtB l path && smB (mtL l path) ps)) = true
      · rw [if_pos hc]
        rw [Bool.and_eq_true, Bool.and_eq_true] at hc
        obtain ⟨c1, c2, c3⟩ := hc
        rw [(mt_some hr).1] at c2
        rw [(mt_some hr).2] at c3
        obtain ⟨q, hq⟩ := Option.isSome_iff_exists.1 c2
        rw [hq] at c3
        simp only [Option.getD_some] at c3
        rw [smB, Bool.and_eq_true, List.all_eq_true] at c3
        have d1 := of_decide_eq_true c3.1
        have d2 : ∀ p ∈ q, p ∈ ps := by
          intro p hp
          have := c3.2 p hp
          rw [List.any_eq_true] at this
          obtain ⟨z, hz, e⟩ := this
          rw [← of_decide_eq_true e]
          exact hz
        have hnd : (q.map (·.1)).Nodup := (mt_names l path q hq).nodup (prm_nodup hr)
        have hndq : q.Nodup := by
          refine List.Pairwise.of_map (f := (·.1)) (S := fun a b => a ≠ b) ?_ hnd
          intro a b h e
          exact h (by rw [e])
        have d3 := pig q ps hndq d2 d1
        have := rb_bwd l ps path q hk hb (right_parts c1).1 (right_parts c1).2 hq (gt_perm hnd d3 d2).1
        rw [this]
        simp only
        rw [if_pos ⟨d1, c1⟩]
      · rw [if_neg hc]
        cases hR : rbR l ps with
        | none => rfl
        | some y =>
          obtain ⟨xs, n⟩ := y
          simp only
          rw [if_neg]
          rintro ⟨h1, h2⟩
          obtain ⟨b1, q, b2, b3, b4⟩ := rb_fwd l ps xs n hk hR (right_parts h2).1
          rw [hb] at b1
          cases b1
          apply hc
          rw [Bool.and_eq_true, Bool.and_eq_true]
          refine ⟨h2, by rw [(mt_some hr).1, b2]; rfl, ?_⟩
          rw [(mt_some hr).2, b2]
          exact sm_of (by rw [Option.getD_some, b3, h1]) b4
  · rw [if_neg hr, if_neg hr]
end Go.Proofs.YthigandmemifoaaGreatDoor

namespace Go.Proofs.YthigandmemifoaaGreatDoor
open Go.RowKit Go.PlainAid
set_option maxRecDepth 100000

theorem hx_yes {c : Int} (h : hd c = true) : hx c = hv c := by simp [hx, h]
theorem hx_no {c : Int} (h : hd c = false) : hx c = -1 := by simp [hx, h]

/-- the ways through a round -/
theorem rdc_cases (s : ByteArray) (k : Nat) (hk : k < s.size) :
    (pl (bt s k) = true ∧ decL ((bs s).drop k) = (decL ((bs s).drop (k + 1))).map (bt s k :: ·)) ∨
    (pl (bt s k) = false ∧ bt s k = 37 ∧ k + 3 ≤ s.size ∧ hx (bt s (k + 1)) = hv (bt s (k + 1)) ∧ hx (bt s (k + 2)) = hv (bt s (k + 2)) ∧ decL ((bs s).drop k) = (decL ((bs s).drop (k + 3))).map ((hv (bt s (k + 1)) * 16 + hv (bt s (k + 2))) :: ·)) ∨
    (pl (bt s k) = false ∧ decL ((bs s).drop k) = none ∧ (bt s k ≠ 37 ∨ (bt s k = 37 ∧ s.size ≤ k + 2) ∨ (bt s k = 37 ∧ k + 2 < s.size ∧ hx (bt s (k + 1)) = -1) ∨ (bt s k = 37 ∧ k + 2 < s.size ∧ hx (bt s (k + 1)) = hv (bt s (k + 1)) ∧ hx (bt s (k + 2)) = -1))) := by
  have hl := bs_len s
  by_cases hp : pl (bt s k) = true
  · have := dec_step1 (bs s) k (by omega) (by rw [bs_at]; exact hp)
    rw [bs_at] at this
    exact Or.inl ⟨hp, this⟩
  · have hp : pl (bt s k) = false := by simpa using hp
    by_cases h : bt s k = 37 ∧ k + 2 < s.size ∧ hd (bt s (k + 1)) = true ∧ hd (bt s (k + 2)) = true
    · have := dec_step3 (bs s) k (by omega) (by rw [bs_at]; exact hp) (by rw [bs_at]; exact h.1) (by rw [bs_at]; exact h.2.2.1) (by rw [bs_at]; exact h.2.2.2)
      rw [bs_at, bs_at] at this
      exact Or.inr (Or.inl ⟨hp, h.1, by omega, hx_yes h.2.2.1, hx_yes h.2.2.2, this⟩)
    · refine Or.inr (Or.inr ⟨hp, ?_, ?_⟩)
      · refine dec_step0 (bs s) k (by omega) (by rw [bs_at]; exact hp) ?_
        rw [bs_at, bs_at, bs_at, hl]
        exact h
      · by_cases h1 : bt s k = 37
        · by_cases h2 : k + 2 < s.size
          · by_cases h3 : hd (bt s (k + 1)) = true
            · have h4 : hd (bt s (k + 2)) = false := by
                cases e : hd (bt s (k + 2))
                · rfl
                · exact absurd ⟨h1, h2, h3, e⟩ h
              exact Or.inr (Or.inr (Or.inr ⟨h1, h2, hx_yes h3, hx_no h4⟩))
            · exact Or.inr (Or.inr (Or.inl ⟨h1, h2, hx_no (by simpa using h3)⟩))
          · exact Or.inr (Or.inl ⟨h1, by omega⟩)
        · exact Or.inl h1

theorem or64 (a b : Int) (a0 : 0 ≤ a) (a1 : a ≤ 15) (b0 : 0 ≤ b) (b1 : b ≤ 15) : bits BinOp.or IntKind.i64 (a * 16) b = a * 16 + b := by
  obtain ⟨m, rfl⟩ := Int.eq_ofNat_of_zero_le a0
  obtain ⟨n, rfl⟩ := Int.eq_ofNat_of_zero_le b0
  have key : ∀ m n : Fin 16, bits BinOp.or IntKind.i64 ((m.val : Int) * 16) (n.val : Int) = (m.val : Int) * 16 + (n.val : Int) := by decide +kernel
  exact key ⟨m, by omega⟩ ⟨n, by omega⟩

set_option maxHeartbeats 1600000 in
theorem decodeR (s : ByteArray) (w : World) (hs : s.size ≤ 100000000) : Calls Tryz.prog 48 #[.string s] w fun e w' => e = .returned (.tuple #[.string (decS s), .bool (decB s)]) ∧ Below w.heap.size w w' := by
  have gb := get_bt s
  go_enter Tryz.func48, Tryz.ntmps48
  go_wp2_with fail
  go_loopw [4, 5] (fun v i wr => ∃ (k : Nat) (pre : List Int), k ≤ s.size ∧ i = .int .i64 k ∧ Mid s k pre ∧ Own w.heap.size w v pre wr) (fun _ i _ => s.size - (intOf i).toNat)
  case atStart => exact ⟨0, [], Nat.zero_le _, rfl, mid_zero s, Own.nil w⟩
  case round =>
    obtain ⟨k, pre, hk, rfl, hmid, hown⟩ := hrel
    have HO := Lib.hid hown
    have HM := Lib.hid hmid
    clear hown hmid
    have eb : Hid (pre.length ≤ 1000000000) := by have := HM.out.2.1; show _ ≤ _; omega
    by_cases hlt : k < s.size
    · have c0 : (k : Int) < (s.size : Int) := by omega
      have b1 := bt_nonneg s (k + 1)
      have b2 := bt_le s (k + 1)
      have b3 := bt_nonneg s (k + 2)
      have b4 := bt_le s (k + 2)
      rcases rdc_cases s k hlt with ⟨hp, n3⟩ | ⟨hp, g1, g2, g3, g4, n3⟩ | ⟨hp, n3, hn⟩
      · have HM1 := Lib.hid (mid_step HM.out (m := 1) (by omega) (by omega) n3)
        go_wp2_with (first | (go_at_call 69; refine (plainR _ _).mono ?_; rintro e w' ⟨rfl, rfl⟩; first | rw [hp] | rw [pl37]) | (at_builtin; refine wpList_app _ rfl (.tmp 17) (.tmp 21) rfl w.heap.size w _ _ rfl (HO.out.alloc _) ?b1 wr.heap.size 1 1 [bt s k] rfl rfl (by omega) (heap_alloc_new _ _) ?_))
        case b1 => exact eb.out
        intro v1 w1 h1
        have H1 := Lib.hid h1
        clear h1
        go_wp2_with fail
        go_roundw
        case rel => exact ⟨k + 1, _, by omega, by go_num, HM1.out, H1.out⟩
        case measure => simp [intOf]; omega
      · have HM1 := Lib.hid (mid_step HM.out (m := 3) (by omega) g2 n3)
        have v1 := hv_bd (bt s (k + 1))
        have v2 := hv_bd (bt s (k + 2))
        generalize hv (bt s (k + 1)) = x at *
        generalize hv (bt s (k + 2)) = y at *
        obtain ⟨x0, x1⟩ := v1
        obtain ⟨y0, y1⟩ := v2
        have c2 : (k : Int) + 2 < (s.size : Int) := by omega
        go_wp2_with (first | (go_at_call 69; refine (plainR _ _).mono ?_; rintro e w' ⟨rfl, rfl⟩; first | rw [hp] | rw [pl37]) | (go_at_call 70; refine (hexR _ _ (by assumption) (by assumption)).mono ?_; rintro e w' ⟨rfl, rfl⟩))
        have o1 : bits BinOp.or IntKind.i64 (x * 16) y = x * 16 + y := or64 x y x0 x1 y0 y1
        have i1 : 0 ≤ (k : Int) + 1 ∧ (k : Int) + 1 < (s.size : Int) := by omega
        have i2 : 0 ≤ (k : Int) + 2 ∧ (k : Int) + 2 < (s.size : Int) := by omega
        have j1 : IntKind.i64.wrap ((k : Int) + 1) = (k : Int) + 1 := IntWalk.i64_in _ (by omega)
        have j2 : IntKind.i64.wrap ((k : Int) + 2) = (k : Int) + 2 := IntWalk.i64_in _ (by omega)
        have j3 : IntKind.i64.wrap (x * 16) = x * 16 := IntWalk.i64_in _ (by omega)
        have j4 : IntKind.u8.wrap (x * 16 + y) = x * 16 + y := by rw [IntKind.wrap_u8]; omega
        have j5 : ((k : Int) + 1).toNat = k + 1 := by omega
        have j6 : ((k : Int) + 2).toNat = k + 2 := by omega
        have i3 : (0 : Int) ≤ (k : Int) + 1 := by omega
        have i4 : (0 : Int) ≤ (k : Int) + 2 := by omega
        have i5 : (k : Int) + 1 < (s.size : Int) := by omega
        have o2 : (x * 16 + y) % 256 = x * 16 + y := by omega
        go_region_held3 (fun _ => True) (trivial) (first | (refine step_app _ (by rfl) (.tmp 51) (.tmp 65) rfl w.heap.size w _ _ rfl ((HO.out.alloc _).drew) eb.out wr.heap.size 1 1 [x * 16 + y] rfl rfl (by omega) (heap_alloc_new _ _) ?_; intro v1 w1 h1; have H1 := Lib.hid h1; clear h1) | (go_at_call 70; refine (hexR _ _ (by assumption) (by assumption)).mono ?_; rintro e w' ⟨rfl, rfl⟩))
        all_goals
          go_wp2_with fail
          go_roundw
          case rel => exact ⟨k + 3, _, g2, by go_num, HM1.out, H1.out⟩
          case measure => simp [intOf]; omega
      · obtain ⟨d1, d2⟩ := mid_none HM.out n3
        rcases hn with hn | ⟨h1, h2⟩ | ⟨h1, h2, h3⟩ | ⟨h1, h2, h3, h4⟩
        · go_wp2_with (first | (go_at_call 69; refine (plainR _ _).mono ?_; rintro e w' ⟨rfl, rfl⟩; first | rw [hp] | rw [pl37]))
          try rw [d1, d2]
          go_ret2
          exact ⟨rfl, HO.out.2.1⟩
        · have c2 : ¬ (k : Int) + 2 < (s.size : Int) := by omega
          go_wp2_with (first | (go_at_call 69; refine (plainR _ _).mono ?_; rintro e w' ⟨rfl, rfl⟩; first | rw [hp] | rw [pl37]))
          try rw [d1, d2]
          go_ret2
          exact ⟨rfl, HO.out.2.1⟩
        · have c2 : (k : Int) + 2 < (s.size : Int) := by omega
          go_wp2_with (first | (go_at_call 69; refine (plainR _ _).mono ?_; rintro e w' ⟨rfl, rfl⟩; first | rw [hp] | rw [pl37]) | (go_at_call 70; refine (hexR _ _ (by assumption) (by assumption)).mono ?_; rintro e w' ⟨rfl, rfl⟩))
          try rw [d1, d2]
          go_ret2
          exact ⟨rfl, HO.out.2.1⟩
        · have c2 : (k : Int) + 2 < (s.size : Int) := by omega
          have v1 := hv_bd (bt s (k + 1))
          generalize hv (bt s (k + 1)) = x at *
          obtain ⟨x0, x1⟩ := v1
          go_wp2_with (first | (go_at_call 69; refine (plainR _ _).mono ?_; rintro e w' ⟨rfl, rfl⟩; first | rw [hp] | rw [pl37]) | (go_at_call 70; refine (hexR _ _ (by assumption) (by assumption)).mono ?_; rintro e w' ⟨rfl, rfl⟩))
          try rw [d1, d2]
          go_ret2
          exact ⟨rfl, HO.out.2.1⟩
    · obtain rfl : k = s.size := by omega
      obtain ⟨d1, d2⟩ := mid_end HM.out
      have hcv := own_text HO.out
      go_wp2
      rw [d1, d2]
      go_ret2
      exact ⟨rfl, HO.out.2.1⟩
end Go.Proofs.YthigandmemifoaaGreatDoor
