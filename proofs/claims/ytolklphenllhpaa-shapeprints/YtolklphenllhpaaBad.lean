/-
  Trees that aren't right; what is printed of right ones: that is no more than so long, and never alike. No program.
-/
import Derived.Test.YtolklphenllhpaaInj
import Derived.Test.YtolklphenllhpaaPrt
namespace Go.Proofs.Ytolklphenllhpaa
open Go.PlainAid
set_option maxRecDepth 100000

theorem inR_app {a b : List Int} (h : InR a) (k : InR b) : InR (a ++ b) := fun x hx => (List.mem_append.1 hx).elim (h x) (k x)
theorem inR_cons {c : Int} {a : List Int} (h : 0 ≤ c ∧ c ≤ 255) (k : InR a) : InR (c :: a) := fun x hx => by
  rcases List.mem_cons.1 hx with rfl | hx
  · exact h
  · exact k x hx
theorem inR_nil : InR [] := fun x hx => by cases hx
theorem esc_inR {l : List Int} (h : InR l) : InR (l.flatMap escL) := by
  intro x hx
  obtain ⟨c, hc, hx⟩ := List.mem_flatMap.1 hx
  unfold escL at hx
  have := h c hc
  split at hx
  · rcases List.mem_cons.1 hx with rfl | hx
    · omega
    · rw [List.mem_singleton.1 hx]; exact this
  · rw [List.mem_singleton.1 hx]; exact this
theorem qt_inR (s : Tx) : InR (qtL s) := inR_cons (by omega) (inR_app (esc_inR (bs_inR s)) (inR_cons (by omega) inR_nil))
theorem hd_inR (g k : Tx) (a : List Pr) : InR (hdL g k a) := by
  refine inR_cons (by omega) (inR_app (bs_inR g) (inR_app ?_ (inR_app ?_ (inR_cons (by omega) inR_nil))))
  · split
    · exact inR_nil
    · exact inR_cons (by omega) (qt_inR k)
  · intro x hx
    obtain ⟨p, _, hx⟩ := List.mem_flatMap.1 hx
    exact inR_cons (a := qtL p.1 ++ 61 :: qtL p.2) (by omega) (inR_app (qt_inR _) (inR_cons (by omega) (qt_inR _))) x hx
mutual
theorem prt_inR : ∀ t : Tr, InR (prt t)
  | .mk g k x a ks => by
    rw [prt_mk]
    split
    · exact qt_inR x
    · exact inR_app (inR_app (hd_inR g k a) (prtL_inR ks)) (inR_cons (by omega) (inR_cons (by omega) (inR_cons (by omega) inR_nil)))
theorem prtL_inR : ∀ l : List Tr, InR (prtL l)
  | [] => by rw [prtL]; exact inR_nil
  | t :: ts => by rw [prtL]; exact inR_app (prt_inR t) (prtL_inR ts)
end
theorem prt_pos (t : Tr) : 1 ≤ (prt t).length := by
  cases t with
  | mk g k x a ks =>
    rw [prt_mk]
    split
    · unfold qtL; simp
    · unfold hdL; simp
theorem pnT_rt {t : Tr} (h : rtB t = true) : pnT t = st (prt t) := by unfold pnT; rw [if_pos h]
theorem pnT_bs {t : Tr} (h : rtB t = true) : bs (pnT t) = prt t := by rw [pnT_rt h, bs_st (prt_inR t)]
theorem pnT_pos {t : Tr} (h : rtB t = true) : (pnT t).size ≠ 0 := by
  have := prt_pos t
  rw [pnT_rt h, st_size]
  omega
theorem pnT_same {t u : Tr} (h : WoT t) (k : WoT u) : (pnT t = pnT u) ↔ t = u := by
  constructor
  · intro e
    have e2 := congrArg bs e
    rw [pnT_bs h.rt, pnT_bs k.rt] at e2
    exact prt_same h.right k.right e2
  · rintro rfl; rfl
theorem pnT_eq {t u : Tr} (h : WoT t) (k : WoT u) : ((pnT t).toList == (pnT u).toList) = trB t u := by
  rw [bs_eqd]
  by_cases e : t = u
  · rw [trB_true e, decide_eq_true ((pnT_same h k).2 e)]
  · rw [trB_false e, decide_eq_false (fun h' => e ((pnT_same h k).1 h'))]
theorem pnT_bad {t : Tr} (h : rtB t = false) : pnT t = ⟨#[]⟩ := by unfold pnT; rw [if_neg (by rw [h]; decide)]

/-- the kids of a tree that a Wood makes -/
theorem WoT.kid {t : Tr} (h : WoT t) {k : Tr} (hk : k ∈ t.kids) : k.all NdS ∧ rtB k = true ∧ (prt k).length ≤ 1300 := by
  have h1 := ((all_iff _ _).1 h.1).2 k hk
  have h2 := ((all_iff _ _).1 h.right).2 k hk
  obtain ⟨i, hi, e⟩ := List.mem_iff_getElem.1 hk
  have hc : k.cnt ≤ cntL t.kids := by
    have := kid_cnt t.kids i hi
    simp only [List.getD, List.getElem?_eq_getElem hi, Option.getD_some, e] at this
    exact this
  have hc2 : t.cnt = 1 + cntL t.kids := by rw [Tr.eta t, cnt_mk]; rfl
  have hc3 := h.2.1
  have hd := dep_cnt k
  have hdd : k.dep ≤ 12 := by
    have h3 : depL t.kids = t.dep - 1 := by
      have : t.dep = 1 + depL t.kids := by rw [Tr.eta t, dep_mk]; rfl
      omega
    have h4 := dep_next t.kids i hi
    simp only [List.getD, List.getElem?_eq_getElem hi, Option.getD_some, e] at h4
    omega
  refine ⟨all_mono (fun _ => NdW.nds) _ k (Nat.le_refl _) h1, ?_, ?_⟩
  · have := rg_yes 12 k 60 h2 hdd (by omega)
    unfold rtB
    rw [this]
  · have := prt_len k h1
    omega
/-- what stands at the end of a right element's text -/
theorem prt_end {t : Tr} (h : t.tag.size ≠ 0) : ∃ n, prt t = (prt t).take n ++ (prtL t.kids ++ [60, 47, 62]) ∧ (prt t).length = n + (prtL t.kids).length + 3 := by
  refine ⟨(hdL t.tag t.key t.attrs).length, ?_, ?_⟩
  all_goals
    have e : prt t = hdL t.tag t.key t.attrs ++ (prtL t.kids ++ [60, 47, 62]) := by
      conv => lhs; rw [Tr.eta t, prt_mk, if_neg h, List.append_assoc]
  · rw [e, List.take_left]
  · rw [e]; simp; omega

/-- a tree that isn't right, yet told: what its calls want -/
structure Bdd (b : Tr) : Prop where
  nds : b.all NdS
  no : rtB b = false
  ln : (prt b).length ≤ 1000000
theorem bad_rn {t : Tr} (h : rn t = false) : rtB t = false := by unfold rtB; exact rg_bad (Or.inl h)
theorem at_len {x : Nde} (h : NdO x) : (x.attrs.flatMap atL).length ≤ 16 := by
  rcases h with ⟨_, _, c, _⟩ | ⟨_, _, _, _, _, e⟩
  · rw [c]; simp
  · rcases e with e | ⟨y, e, hy⟩
    · rw [e]; simp
    · rw [e]
      have h2 := qt_len y
      have h3 : (qtL tX).length ≤ 4 := by decide
      simp only [List.flatMap_cons, List.flatMap_nil, List.append_nil, atL, List.length_cons, List.length_append]
      omega
theorem hd_len (g k : Tx) (a : List Pr) : (hdL g k a).length ≤ 5 + g.size + 2 * k.size + (a.flatMap atL).length := by
  have hq := qt_len k
  simp only [hdL, List.length_append, List.length_cons, List.length_nil, bs_len]
  split
  · simp; omega
  · simp only [List.length_cons]; omega
theorem el_len {g k x : Tx} {a : List Pr} {ks : List Tr} (hg : g.size ≠ 0) : (prt (.mk g k x a ks)).length ≤ 8 + g.size + 2 * k.size + (a.flatMap atL).length + (prtL ks).length := by
  have := hd_len g k a
  rw [prt_mk, if_neg hg]
  simp only [List.length_append, List.length_cons, List.length_nil]
  omega
theorem WoT.parts {t : Tr} (h : WoT t) : NdO ⟨t.tag, t.key, t.text, t.attrs⟩ ∧ (prtL t.kids).length ≤ 1300 ∧ ∀ k ∈ t.kids, k.all NdS := by
  have h1 := (all_iff _ _).1 h.1
  refine ⟨h1.1.1, ?_, fun k hk => (h.kid hk).1⟩
  have h2 := prtL_len t.kids ((allL_iff _ _).2 h1.2)
  have hc2 : t.cnt = 1 + cntL t.kids := by rw [Tr.eta t, cnt_mk]; rfl
  have := h.2.1
  omega
theorem all_of {P : Tr → Prop} {g k x : Tx} {a : List Pr} {ks : List Tr} (h : P (.mk g k x a ks)) (hk : ∀ t ∈ ks, t.all P) : (Tr.mk g k x a ks).all P := (all_iff _ _).2 ⟨h, hk⟩
theorem NdO.bounds {g k x : Tx} {a : List Pr} (h : NdO ⟨g, k, x, a⟩) : a.length ≤ 1 ∧ k.size ≤ 1 ∧ x.size ≤ 4 := by
  rcases h with ⟨_, b, c, d⟩ | ⟨_, _, _, b, d, e⟩
  · simp only at b c d; exact ⟨by rw [c]; simp, by omega, d⟩
  · simp only at b d e
    refine ⟨?_, b, by omega⟩
    rcases e with e | ⟨y, e, _⟩ <;> rw [e] <;> simp
theorem nds_mk {g k x : Tx} {a : List Pr} {ks : List Tr} (h : AtS a) (hg : g.size ≤ 1000000) (hk : k.size ≤ 1000000) (hx : x.size ≤ 1000000) : NdS (.mk g k x a ks) := ⟨h, hg, hk, hx⟩
theorem nil_sz : (⟨#[]⟩ : Tx).size ≤ 1000000 := by decide
theorem a_sz : (⟨#[97]⟩ : Tx).size ≤ 1000000 := by decide
theorem bad0 {t : Tr} (h : WoT t) : Bdd (.mk ⟨#[65]⟩ t.key t.text t.attrs t.kids) := by
  obtain ⟨h1, h2, h3⟩ := h.parts
  obtain ⟨b1, b2, b3⟩ := h1.bounds
  refine ⟨all_of (nds_mk (Or.inl b1) (by decide) (by omega) (by omega)) h3, bad_rn ?_, ?_⟩
  · rw [rn, if_neg (by decide), show tagB ⟨#[65]⟩ = false by decide]; rfl
  · have := el_len (g := ⟨#[65]⟩) (k := t.key) (x := t.text) (a := t.attrs) (ks := t.kids) (by decide)
    have h4 := at_len h1
    simp only at h4
    rw [show (⟨#[65]⟩ : Tx).size = 1 from rfl] at this
    omega
theorem bad1 {t : Tr} (h : WoT t) : Bdd (.mk ⟨#[97]⟩ t.key ⟨#[120]⟩ t.attrs t.kids) := by
  obtain ⟨h1, h2, h3⟩ := h.parts
  obtain ⟨b1, b2, b3⟩ := h1.bounds
  refine ⟨all_of (nds_mk (Or.inl b1) a_sz (by omega) (by decide)) h3, bad_rn ?_, ?_⟩
  · rw [rn, if_neg (by decide), show decide ((⟨#[120]⟩ : Tx).size = 0) = false by decide]
    simp
  · have := el_len (g := ⟨#[97]⟩) (k := t.key) (x := ⟨#[120]⟩) (a := t.attrs) (ks := t.kids) (by decide)
    have h4 := at_len h1
    simp only at h4
    rw [show (⟨#[97]⟩ : Tx).size = 1 from rfl] at this
    omega
theorem bad2 {x : Tx} (h : 64 < x.size) (h2 : x.size ≤ 1000) : Bdd (.mk ⟨#[]⟩ ⟨#[]⟩ x [] []) := by
  refine ⟨all_of (nds_mk (Or.inl (by decide)) nil_sz nil_sz (by omega)) (fun t ht => by cases ht), bad_rn ?_, ?_⟩
  · rw [rn, if_pos (by decide)]
    exact decide_eq_false (fun e => by have := e.2.2.2; omega)
  · rw [prt_mk, if_pos (by decide)]
    have := qt_len x
    omega
theorem bad3 : Bdd (.mk ⟨#[]⟩ ⟨#[107]⟩ ⟨#[]⟩ [] []) := by
  refine ⟨all_of (nds_mk (Or.inl (by decide)) (by decide) (by decide) (by decide)) (fun t ht => by cases ht), bad_rn ?_, ?_⟩
  · rw [rn, if_pos (by decide)]
    decide
  · rw [prt_mk, if_pos (by decide)]
    decide
theorem bad4 : Bdd (.mk ⟨#[97]⟩ ⟨#[]⟩ ⟨#[]⟩ [(tX, ⟨#[]⟩), (tX, ⟨#[]⟩)] []) := by
  refine ⟨all_of (nds_mk (Or.inr rfl) a_sz nil_sz nil_sz) (fun t ht => by cases ht), bad_rn ?_, ?_⟩
  · rw [rn, if_neg (by decide), show atB [(tX, ⟨#[]⟩), (tX, ⟨#[]⟩)] = false by decide]
    simp
  · rw [prt_mk, if_neg (by decide), prtL]
    decide
theorem tr0_nds : tr0.all NdS := all_of (nds_mk (Or.inl (by decide)) (by decide) (by decide) (by decide)) (fun t ht => by cases ht)
theorem prtL_rep (n : Nat) (t : Tr) : (prtL (List.replicate n t)).length = n * (prt t).length := by
  induction n with
  | zero => simp [prtL]
  | succ n ih => rw [List.replicate_succ, prtL, List.length_append, ih, Nat.succ_mul]; omega
theorem tr0_len : (prt tr0).length = 2 := by
  unfold tr0
  rw [prt_mk, if_pos (by decide)]
  decide
theorem row_nds (n : Nat) : (Tr.mk ⟨#[97]⟩ ⟨#[]⟩ ⟨#[]⟩ [] (List.replicate n tr0)).all NdS :=
  all_of (nds_mk (Or.inl (by decide)) (by decide) (by decide) (by decide)) (fun t ht => by rw [List.eq_of_mem_replicate ht]; exact tr0_nds)
theorem row_len (n : Nat) : (prt (Tr.mk ⟨#[97]⟩ ⟨#[]⟩ ⟨#[]⟩ [] (List.replicate n tr0))).length ≤ 9 + 2 * n := by
  have := el_len (g := ⟨#[97]⟩) (k := ⟨#[]⟩) (x := ⟨#[]⟩) (a := []) (ks := List.replicate n tr0) (by decide)
  rw [prtL_rep, tr0_len] at this
  rw [show (⟨#[97]⟩ : Tx).size = 1 from rfl, show (⟨#[]⟩ : Tx).size = 0 from rfl] at this
  simp at this
  omega
theorem bad5 {n : Nat} (h : 24 < n) (h2 : n ≤ 1000) : Bdd (.mk ⟨#[97]⟩ ⟨#[]⟩ ⟨#[]⟩ [] (List.replicate n tr0)) := by
  refine ⟨row_nds n, bad_rn ?_, by have := row_len n; omega⟩
  rw [rn, if_neg (by decide), List.length_replicate, decide_eq_false (show ¬ n ≤ 24 by omega)]
  simp
theorem cntL_rep (n : Nat) (t : Tr) : cntL (List.replicate n t) = n * t.cnt := by
  induction n with
  | zero => simp [cntL]
  | succ n ih => rw [List.replicate_succ, cntL, ih, Nat.succ_mul]; omega
theorem bad7 : Bdd (.mk ⟨#[97]⟩ ⟨#[]⟩ ⟨#[]⟩ [] (List.replicate 3 (.mk ⟨#[97]⟩ ⟨#[]⟩ ⟨#[]⟩ [] (List.replicate 20 tr0)))) := by
  refine ⟨all_of (nds_mk (Or.inl (by decide)) (by decide) (by decide) (by decide)) (fun t ht => by rw [List.eq_of_mem_replicate ht]; exact row_nds 20), ?_, ?_⟩
  · unfold rtB
    refine rg_bad (Or.inr (Or.inr ?_))
    rw [cnt_mk, cntL_rep, cnt_mk, cntL_rep, show tr0.cnt = 1 by unfold tr0; simp [Tr.cnt, cntL]]
    omega
  · have := el_len (g := ⟨#[97]⟩) (k := ⟨#[]⟩) (x := ⟨#[]⟩) (a := []) (ks := List.replicate 3 (.mk ⟨#[97]⟩ ⟨#[]⟩ ⟨#[]⟩ [] (List.replicate 20 tr0))) (by decide)
    have h2 := row_len 20
    rw [prtL_rep] at this
    rw [show (⟨#[97]⟩ : Tx).size = 1 from rfl, show (⟨#[]⟩ : Tx).size = 0 from rfl, List.flatMap_nil, List.length_nil] at this
    omega
/-- what hangs below nodes of their own, so many -/
structure Dpp (j : Nat) (b : Tr) : Prop where
  nds : b.all NdS
  dep : j + 1 ≤ b.dep
  ln : (prt b).length ≤ 1300 + 10 * j
theorem dpp_0 {t : Tr} (h : WoT t) : Dpp 0 t := ⟨h.nds, by rw [Tr.eta t, dep_mk]; omega, by have := h.len; omega⟩
theorem Dpp.next {j : Nat} {b : Tr} (h : Dpp j b) : Dpp (j + 1) (.mk ⟨#[97]⟩ ⟨#[]⟩ ⟨#[]⟩ [] [b]) := by
  refine ⟨all_of (nds_mk (Or.inl (by decide)) (by decide) (by decide) (by decide)) (fun t ht => by rw [List.mem_singleton.1 ht]; exact h.nds), ?_, ?_⟩
  · have := h.dep
    rw [dep_mk]
    simp [depL]
    omega
  · have := el_len (g := ⟨#[97]⟩) (k := ⟨#[]⟩) (x := ⟨#[]⟩) (a := []) (ks := [b]) (by decide)
    have h2 := h.ln
    rw [show (⟨#[97]⟩ : Tx).size = 1 from rfl, show (⟨#[]⟩ : Tx).size = 0 from rfl] at this
    simp [prtL] at this
    omega
theorem Dpp.bad {j : Nat} {b : Tr} (h : Dpp j b) (hj : 12 ≤ j) (hj2 : j ≤ 1000) : Bdd b :=
  ⟨h.nds, by unfold rtB; exact rg_bad (Or.inr (Or.inl (by have := h.dep; omega))), by have := h.ln; omega⟩
end Go.Proofs.Ytolklphenllhpaa
