/-
  What the loop of Wood.Tree keeps: nodes, where they hang, how deep, in memory and as they are.
-/
import Derived.Test.YtolklphenllhpaaKea
namespace Go.Proofs.Ytolklphenllhpaa
open Go.RowKit Go.PlainAid
set_option maxRecDepth 100000

theorem Dp.more {l : List Int} {i : Int} {d : Nat} (h : Dp l i d) (x : Int) : Dp (l ++ [x]) i d := by
  induction h with
  | out h => exact .out h
  | @step j d h _ ih =>
    refine .step (by rw [List.length_append]; omega) ?_
    rw [show (l ++ [x]).getD j 0 = l.getD j 0 from by simp [List.getD, List.getElem?_append_left h]]
    exact ih
theorem getD_old {α : Type} {l : List α} {x z : α} {i : Nat} (h : i < l.length) : (l ++ [x]).getD i z = l.getD i z := by simp [List.getD, List.getElem?_append_left h]
theorem getD_new {α : Type} {l : List α} {x z : α} : (l ++ [x]).getD l.length z = x := by simp [List.getD]

structure WdP (nd : List Nde) (l : List Int) (D : Nat → Nat) : Prop where
  ln : l.length = nd.length
  pos : 0 < nd.length
  un : ∀ i, i < nd.length → unF l i < (i : Int)
  dd : ∀ a i : Nat, i < nd.length → unF l i = (a : Int) → D i = D a + 1
  dp : ∀ i, i < nd.length → Dp l (i : Int) (D i)
  d0 : D 0 = 1
  d7 : ∀ i, i < nd.length → D i ≤ 7
  no : ∀ i, i < nd.length → NdO (ndF nd i)
  tg : ∀ a i : Nat, i < nd.length → unF l i = (a : Int) → (ndF nd a).tag.size ≠ 0
  t0 : (ndF nd 0).tag.size ≠ 0
theorem WdP.push {nd : List Nde} {l : List Int} {D : Nat → Nat} (h : WdP nd l D) {p : Nat} {x : Nde} (hp : p < nd.length) (ht : (ndF nd p).tag.size ≠ 0) (hd : D p ≤ 6) (hx : NdO x) :
    WdP (nd ++ [x]) (l ++ [(p : Int)]) (fun i => if i = nd.length then D p + 1 else D i) := by
  have hl := h.ln
  have uo : ∀ i, i < nd.length → unF (l ++ [(p : Int)]) i = unF l i := fun i hi => getD_old (by omega)
  have un : unF (l ++ [(p : Int)]) nd.length = (p : Int) := by rw [← hl]; exact getD_new
  have no : ∀ i, i < nd.length → ndF (nd ++ [x]) i = ndF nd i := fun i hi => getD_old hi
  have nn : ndF (nd ++ [x]) nd.length = x := getD_new
  have hcase : ∀ i, i < (nd ++ [x]).length → i < nd.length ∨ i = nd.length := by
    intro i hi
    rw [List.length_append, List.length_singleton] at hi
    omega
  refine ⟨by simp [hl], by simp, fun i hi => ?_, fun a i hi e => ?_, fun i hi => ?_, ?_, fun i hi => ?_, fun i hi => ?_, fun a i hi e => ?_, ?_⟩
  · rcases hcase i hi with h1 | rfl
    · rw [uo i h1]; exact h.un i h1
    · rw [un]; omega
  · rcases hcase i hi with h1 | rfl
    · rw [uo i h1] at e
      have h2 := h.un i h1
      have h3 := h.dd a i h1 e
      rw [e] at h2
      rw [if_neg (by omega), if_neg (by omega)]
      exact h3
    · rw [un] at e
      have : p = a := by omega
      subst this
      rw [if_pos rfl, if_neg (by omega)]
  · rcases hcase i hi with h1 | rfl
    · rw [if_neg (by omega)]
      exact (h.dp i h1).more _
    · rw [if_pos rfl]
      refine .step (by simp [hl]) ?_
      rw [show (l ++ [(p : Int)]).getD nd.length 0 = (p : Int) from un]
      exact (h.dp p hp).more _
  · have := h.pos
    rw [if_neg (by omega)]
    exact h.d0
  · rcases hcase i hi with h1 | rfl
    · rw [if_neg (by omega)]; exact h.d7 i h1
    · rw [if_pos rfl]; omega
  · rcases hcase i hi with h1 | rfl
    · rw [no i h1]; exact h.no i h1
    · rw [nn]; exact hx
  · rcases hcase i hi with h1 | rfl
    · rw [uo i h1] at e
      have h2 := h.un i h1
      rw [e] at h2
      rw [no a (by omega)]
      exact h.tg a i h1 e
    · rw [un] at e
      have : p = a := by omega
      subst this
      rw [no p hp]
      exact ht
  · rw [no 0 h.pos]; exact h.t0
theorem WdP.wot {nd : List Nde} {l : List Int} {D : Nat → Nat} (h : WdP nd l D) (hn : nd.length ≤ 13) : WoT (gT (ndF nd) (unF l) nd.length 0) := by
  have hp := h.pos
  refine ⟨gT_all (fun a ha => gT_ndw hn h.no (fun a i hi _ e => h.tg a i hi e) a ha) nd.length 0 hp (by omega), ?_, ?_, ?_⟩
  · have := gT_cnt_le (nd := ndF nd) h.un hp
    omega
  · have := gT_dep (nd := ndF nd) (U := unF l) D 7 h.d7 (fun a i hi _ e => h.dd a i hi e) nd.length 0 hp (by omega)
    rw [h.d0] at this
    omega
  · rw [gT_eq]
    exact h.t0

def ndC (r : Nde × Value) : List Value := [.string r.1.tag, .string r.1.key, .string r.1.text, r.2, .slice none 0 0]
theorem Ps.one {w : World} {v : Value} {l : List Pr} (h : Ps w v l) : v.oneCell' = true := by
  obtain ⟨A, c, rfl, _⟩ := h
  rfl
structure Atw (B : Nat) (w : World) (v5 v6 av : Value) (a : List Pr) : Prop where
  ps : Ps w av a
  ap : ∀ ad n c, av = .slice (some ad) n c → B ≤ ad.block ∧ ad.block < w.heap.size ∧ v5.ownBlock ≠ some ad.block ∧ v6.ownBlock ≠ some ad.block
  ln : a.length ≤ 1
structure WdM (B : Nat) (wr : World) (v5 v6 : Value) (rs : List (Nde × Value)) (l : List Int) : Prop where
  o5 : wr.ownsRow B 27 5 v5 rs.length (rs.map ndC).flatten
  o6 : wr.ownsRow B 3 1 v6 l.length (niC l)
  at_ : ∀ r ∈ rs, Atw B wr v5 v6 r.2 r.1.attrs
  ap : ∀ g, v5.ownBlock = some g → v6.ownBlock ≠ some g
theorem Atw.call {B : Nat} {w w' : World} {v5 v6 av : Value} {a : List Pr} (h : Atw B w v5 v6 av a) (hb : Below w.heap.size w w') : Atw B w' v5 v6 av a :=
  ⟨h.ps.call hb, fun ad n c e => by have := h.ap ad n c e; exact ⟨this.1, Nat.lt_of_lt_of_le this.2.1 hb.size, this.2.2⟩, h.ln⟩
theorem WdM.call {B : Nat} {w w' : World} {v5 v6 : Value} {rs : List (Nde × Value)} {l : List Int} (h : WdM B w v5 v6 rs l) (hb : Below w.heap.size w w') : WdM B w' v5 v6 rs l :=
  ⟨owns_sameB h.o5 (fun g hg => hb.block g (h.o5.lt g hg).2), owns_sameB h.o6 (fun g hg => hb.block g (h.o6.lt g hg).2), fun r hr => (h.at_ r hr).call hb, h.ap⟩
theorem WdM.push5 {B : Nat} {w w2 : World} {v5 v6 v2 : Value} {rs : List (Nde × Value)} {l : List Int} (h : WdM B w v5 v6 rs l) {x : Nde × Value} (hx : Atw B w v5 v6 x.2 x.1.attrs)
    (ho : w2.ownsRow B 27 5 v2 (rs.length + 1) ((rs.map ndC).flatten ++ ndC x)) (hg : w.grownBy w2 v5.ownBlock) (hv : v2.ownBlock = v5.ownBlock ∨ v2.ownBlock = some w.heap.size) : WdM B w2 v2 v6 (rs ++ [x]) l := by
  have hat : ∀ av a, Atw B w v5 v6 av a → Atw B w2 v2 v6 av a := by
    intro av a hh
    refine ⟨hh.ps.frame (p := fun k => k < w.heap.size ∧ v5.ownBlock ≠ some k) (fun ad n c e _ => ⟨(hh.ap ad n c e).2.1, (hh.ap ad n c e).2.2.1⟩) (fun k hp hl => hg.block k hl (fun e => hp.2 e.symm)), fun ad n c e => ?_, hh.ln⟩
    obtain ⟨a1, a2, a3, a4⟩ := hh.ap ad n c e
    refine ⟨a1, Nat.lt_of_lt_of_le a2 hg.size, ?_, a4⟩
    rcases hv with e2 | e2
    · rw [e2]; exact a3
    · rw [e2]
      intro e3
      have e4 := Option.some.inj e3
      omega
  refine ⟨by simpa using ho, owns_sameB h.o6 (fun g hg' => hg.block g (h.o6.lt g hg').2 (fun e => h.ap g e.symm hg')), fun r hr => ?_, fun g hg' => ?_⟩
  · rcases List.mem_append.1 hr with e | e
    · exact hat _ _ (h.at_ r e)
    · rw [List.mem_singleton] at e
      rw [e]
      exact hat _ _ hx
  · rcases hv with e2 | e2
    · rw [e2] at hg'; exact h.ap g hg'
    · rw [e2] at hg'
      cases hg'
      intro e3
      exact Nat.lt_irrefl _ (h.o6.lt _ e3).2
theorem WdM.push6 {B : Nat} {w w2 : World} {v5 v6 v2 : Value} {rs : List (Nde × Value)} {l : List Int} (h : WdM B w v5 v6 rs l) {x : Int}
    (ho : w2.ownsRow B 3 1 v2 (l.length + 1) (niC l ++ niC [x])) (hg : w.grownBy w2 v6.ownBlock) (hv : v2.ownBlock = v6.ownBlock ∨ v2.ownBlock = some w.heap.size) : WdM B w2 v5 v2 rs (l ++ [x]) := by
  have hat : ∀ av a, Atw B w v5 v6 av a → Atw B w2 v5 v2 av a := by
    intro av a hh
    refine ⟨hh.ps.frame (p := fun k => k < w.heap.size ∧ v6.ownBlock ≠ some k) (fun ad n c e _ => ⟨(hh.ap ad n c e).2.1, (hh.ap ad n c e).2.2.2⟩) (fun k hp hl => hg.block k hl (fun e => hp.2 e.symm)), fun ad n c e => ?_, hh.ln⟩
    obtain ⟨a1, a2, a3, a4⟩ := hh.ap ad n c e
    refine ⟨a1, Nat.lt_of_lt_of_le a2 hg.size, a3, ?_⟩
    rcases hv with e2 | e2
    · rw [e2]; exact a4
    · rw [e2]
      intro e3
      have e4 := Option.some.inj e3
      omega
  refine ⟨owns_sameB h.o5 (fun g hg' => hg.block g (h.o5.lt g hg').2 (fun e => h.ap g hg' e.symm)), by rw [niC_app, List.length_append]; exact ho, fun r hr => hat _ _ (h.at_ r hr), fun g hg' => ?_⟩
  rcases hv with e2 | e2
  · rw [e2]; exact h.ap g hg'
  · rw [e2]
    intro e3
    cases e3
    exact Nat.lt_irrefl _ (h.o5.lt _ hg').2
abbrev rN (rs : List (Nde × Value)) : List Nde := rs.map Prod.fst
theorem WdM.nr {B : Nat} {w : World} {v5 v6 : Value} {rs : List (Nde × Value)} {l : List Int} (h : WdM B w v5 v6 rs l) : Nr (fun k => B ≤ k ∧ k < w.heap.size) w v5 (rN rs) ∧ Ni w v6 l := by
  refine ⟨?_, owns_ni h.o6⟩
  have hcl := @World.ownsRow.cells _ _ _ _ _ _ _ h.o5
  have h5 : ∀ x ∈ rs.map ndC, x.length = 5 ∧ ∀ u ∈ x, u.oneCell' = true := by
    intro x hx
    obtain ⟨r, hr, rfl⟩ := List.mem_map.1 hx
    refine ⟨rfl, fun u hu => ?_⟩
    have := (h.at_ r hr).ps.one
    simp only [ndC, List.mem_cons, List.not_mem_nil, or_false] at hu
    rcases hu with rfl | rfl | rfl | rfl | rfl
    · rfl
    · rfl
    · rfl
    · exact this
    · rfl
  rcases h.o5.2 with ⟨e, h0⟩ | ⟨g, cap, cur, e, hB, _, h4, _⟩
  · refine ⟨none, 0, by rw [e, List.length_map, h0], fun i hi => ?_⟩
    rw [List.length_map] at hi
    omega
  · refine ⟨some ⟨g, 0, none⟩, cap, by rw [e, List.length_map], fun i hi => ?_⟩
    rw [List.length_map] at hi
    have hm : rs[i] ∈ rs := List.getElem_mem hi
    have he : (rN rs).getD i ⟨⟨#[]⟩, ⟨#[]⟩, ⟨#[]⟩, []⟩ = rs[i].1 := by simp [List.getD, hi]
    have hc : ∀ j, j < 5 → w.cell? ⟨g, 0 + i * 5 + j, none⟩ = (ndC rs[i])[j]? := by
      intro j hj
      have h6 := flat_get h5 i j (by simpa using hi) hj
      have h7 : (rs.map ndC).getD i [] = ndC rs[i] := by simp [List.getD, hi]
      rw [h7] at h6
      have hl : (ndC rs[i]).length = 5 := rfl
      have hl' : j < (ndC rs[i]).length := by omega
      rw [List.getElem?_eq_getElem hl'] at h6 ⊢
      have := hcl (by rw [e]; rfl) (i * 5 + j) _ h6
      rw [add_lit', ← Nat.add_assoc] at this
      exact this
    rw [he]
    have ha := h.at_ _ hm
    have hq : ∀ ad n c, rs[i].2 = .slice (some ad) n c → B ≤ ad.block ∧ ad.block < w.heap.size := fun ad n c e => ⟨(ha.ap ad n c e).1, (ha.ap ad n c e).2.1⟩
    exact ⟨g, 0, rs[i].2, rfl, hc 0 (by omega), hc 1 (by omega), hc 2 (by omega), hc 3 (by omega), hc 4 (by omega), ⟨ha.ps, fun ad n c e _ => hq ad n c e⟩, hq, ha.ln⟩
theorem WdM.tagc {B : Nat} {w : World} {v6 : Value} {A5 : Option Addr} {n c5 : Nat} {rs : List (Nde × Value)} {l : List Int} (h : WdM B w (.slice A5 n c5) v6 rs l) {p : Nat} (hp : p < rs.length) :
    ∃ b o, A5 = some ⟨b, o, none⟩ ∧ w.cell? ⟨b, o + p * 5, none⟩ = some (.string (ndF (rN rs) p).tag) := by
  obtain ⟨⟨A, c, e, hc⟩, _⟩ := h.nr
  obtain ⟨b, o, av, e1, h0, _⟩ := hc p (by rw [List.length_map]; exact hp)
  injection e with e2 _ _
  exact ⟨b, o, e2.trans e1, h0⟩
end Go.Proofs.Ytolklphenllhpaa
