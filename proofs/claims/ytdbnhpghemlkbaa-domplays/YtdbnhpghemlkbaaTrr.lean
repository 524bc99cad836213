/-
  Rows of trees that a call makes.
-/
import Derived.Test.YtdbnhpghemlkbaaTre
import Derived.Test.YtdbnhpghemlkbaaVee
namespace Go.Proofs.Ytdbnhpghemlkbaa
open Go.RowKit Go.PlainAid Dm
set_option maxRecDepth 100000

theorem set5 (w : World) (T : Nat) (t : TypeId) {cs : Array Value} (u0 u1 u2 u3 u4 : Value) (hT : w.heap[T]? = some (.cells cs t (0, 0))) (hz : cs.size = 5) :
    (((((w.setCell ⟨T, 0, none⟩ u0).setCell ⟨T, 1, none⟩ u1).setCell ⟨T, 2, none⟩ u2).setCell ⟨T, 3, none⟩ u3).setCell ⟨T, 4, none⟩ u4).heap[T]? = some (.cells #[u0, u1, u2, u3, u4] t (0, 0)) ∧
    Kp (fun i => i = T) w (((((w.setCell ⟨T, 0, none⟩ u0).setCell ⟨T, 1, none⟩ u1).setCell ⟨T, 2, none⟩ u2).setCell ⟨T, 3, none⟩ u3).setCell ⟨T, 4, none⟩ u4) := by
  refine ⟨?_, ((((((Kp.refl (fun i => i = T) w).setCell (p := ⟨T, 0, none⟩) (fun _ => rfl) _).setCell (p := ⟨T, 1, none⟩) (fun _ => rfl) _).setCell (p := ⟨T, 2, none⟩) (fun _ => rfl) _).setCell (p := ⟨T, 3, none⟩) (fun _ => rfl) _).setCell (p := ⟨T, 4, none⟩) (fun _ => rfl) _)⟩
  rw [blk_setCell (blk_setCell (blk_setCell (blk_setCell (blk_setCell hT 0 _) 1 _) 2 _) 3 _) 4 _]
  obtain ⟨x0, x1, x2, x3, x4, rfl⟩ : ∃ x0 x1 x2 x3 x4, cs = #[x0, x1, x2, x3, x4] := by
    obtain ⟨l⟩ := cs
    match l, hz with
    | [a, b, c, d, e], _ => exact ⟨a, b, c, d, e, rfl⟩
  rfl
theorem owns_sameB {w w' : World} {B : Nat} {e : TypeId} {size n : Nat} {v : Value} {xs : List Value} (h : w.ownsRow B e size v n xs) (hs : ∀ g, v.ownBlock = some g → w'.heap[g]? = w.heap[g]?) : w'.ownsRow B e size v n xs := by
  refine ⟨h.1, ?_⟩
  rcases h.2 with hn | ⟨g, cap, cur, rfl, hb, hgg, rest⟩
  · exact .inl hn
  · exact .inr ⟨g, cap, cur, rfl, hb, (hs g rfl).trans hgg, rest⟩

/-- a row of trees in memory of the call's own -/
structure TrR (B : Nat) (p : Nat → Prop) (w : World) (v : Value) (vs : List (List Value)) (ts : List Tr) : Prop where
  own : w.ownsRow B 31 5 v vs.length vs.flatten
  five : ∀ x ∈ vs, x.length = 5 ∧ ∀ u ∈ x, u.oneCell' = true
  len : vs.length = ts.length
  tr : ∀ i, i < vs.length → TrW (fun k => p k ∧ v.ownBlock ≠ some k) w (.agg (vs.getD i []).toArray) (ts.getD i tr0)
theorem flat_get {vs : List (List Value)} (h : ∀ x ∈ vs, x.length = 5 ∧ ∀ u ∈ x, u.oneCell' = true) (i j : Nat) (hi : i < vs.length) (hj : j < 5) : vs.flatten[i * 5 + j]? = (vs.getD i [])[j]? := by
  induction vs generalizing i with
  | nil => simp at hi
  | cons x vs ih =>
    have hx := (h x (by simp)).1
    cases i with
    | zero =>
      rw [List.flatten_cons, List.getElem?_append_left (by omega)]
      simp
    | succ i =>
      have := ih (fun y hy => h y (by simp [hy])) i (by simpa using hi)
      rw [List.flatten_cons, List.getElem?_append_right (by omega), hx, show (i + 1) * 5 + j - 5 = i * 5 + j by omega, this]
      simp
section
variable {B : Nat} {p : Nat → Prop} {w : World} {v : Value} {vs : List (List Value)} {ts : List Tr}
theorem trR_nil (B : Nat) (p : Nat → Prop) (w : World) : TrR B p w (.slice none 0 0) [] [] :=
  { own := World.ownsRow_nil _ _ _ _, five := fun x hx => (by cases hx), len := rfl, tr := fun i hi => absurd hi (Nat.not_lt_zero i) }
theorem TrR.call (h : TrR B p w v vs ts) {w' : World} (hb : Below w.heap.size w w') : TrR B p w' v vs ts :=
  ⟨owns_sameB h.own (fun g hg => hb.block g (h.own.lt g hg).2), h.five, h.len, fun i hi => (h.tr i hi).call hb⟩
/-- a block that isn't the row's own, and none of p's, stored into -/
theorem TrR.kp (h : TrR B p w v vs ts) {w' : World} {T : Nat} (hk : Kp (fun k => k = T) w w') (hT : ¬ p T) (hv : v.ownBlock ≠ some T) : TrR B p w' v vs ts :=
  ⟨owns_sameB h.own (fun g hg => hk.block g (h.own.lt g hg).2 (fun e => hv (by rw [hg, e]))), h.five, h.len, fun i hi => (h.tr i hi).frame (fun k hp hl => hk.block k hl (fun e => hT (e ▸ hp.1)))⟩
theorem TrR.push (h : TrR B p w v vs ts) {x : List Value} {t : Tr} (hx : x.length = 5 ∧ ∀ u ∈ x, u.oneCell' = true) (ht : TrW (fun k => p k ∧ v.ownBlock ≠ some k) w (.agg x.toArray) t) {w1 : World} {v1 : Value}
    (ho : w1.ownsRow B 31 5 v1 (vs.length + 1) (vs.flatten ++ x)) (hg : w.grownBy w1 v.ownBlock) (hv : v1.ownBlock = v.ownBlock ∨ v1.ownBlock = some w.heap.size) : TrR B p w1 v1 (vs ++ [x]) (ts ++ [t]) := by
  have key : ∀ {y : Value} {u : Tr}, TrW (fun k => p k ∧ v.ownBlock ≠ some k) w y u → TrW (fun k => p k ∧ v1.ownBlock ≠ some k) w1 y u := by
    intro y u hy
    have h1 : TrW (fun k => (p k ∧ v1.ownBlock ≠ some k) ∧ v.ownBlock ≠ some k) w y u := hy.mono (fun k hp hl => by
      refine ⟨⟨hp.1, ?_⟩, hp.2⟩
      rcases hv with e | e
      · rw [e]; exact hp.2
      · rw [e]
        intro e2
        cases e2
        exact Nat.lt_irrefl _ hl)
    exact (h1.frame (fun k hp hl => hg.block k hl (fun e => hp.2 e.symm))).mono (fun k hp _ => hp.1)
  refine ⟨?_, fun y hy => ?_, by simp [h.len], fun i hi => ?_⟩
  · rw [List.length_append, List.flatten_append]
    simpa using ho
  · rcases List.mem_append.1 hy with e | e
    · exact h.five y e
    · rw [List.mem_singleton] at e
      rw [e]; exact hx
  · by_cases e : i < vs.length
    · have e1 : (vs ++ [x]).getD i [] = vs.getD i [] := by simp [List.getD, List.getElem?_append_left e]
      have e2 : (ts ++ [t]).getD i tr0 = ts.getD i tr0 := by simp [List.getD, List.getElem?_append_left (show i < ts.length by have := h.len; omega)]
      rw [e1, e2]
      exact key (h.tr i e)
    · obtain rfl : i = vs.length := by simp at hi; omega
      have e1 : (vs ++ [x]).getD vs.length [] = x := by simp [List.getD]
      have e2 : (ts ++ [t]).getD vs.length tr0 = t := by rw [h.len]; simp [List.getD]
      rw [e1, e2]
      exact key ht
/-- the tree that has the row as its kids -/
theorem TrR.tree (h : TrR B p w v vs ts) (hp : ∀ k, B ≤ k → p k) {tag key text : Tx} {attrs : List Pr} {av : Value} (hb : attrs.length ≤ 1000000 ∧ ts.length ≤ 1000000) (ha : Ps w av attrs) (hap : ∀ a n c, av = .slice (some a) n c → 0 < attrs.length → p a.block) :
    TrW p w (.agg #[.string tag, .string key, .string text, av, v]) (.mk tag key text attrs ts) := by
  obtain ⟨A, c, e, hc, hA⟩ : ∃ A c, v = .slice A ts.length c ∧ ts.length ≤ c ∧ ∀ i, i < ts.length → ∃ g, A = some ⟨g, 0, none⟩ ∧ B ≤ g ∧ ∀ j, j < 5 → w.cell? ⟨g, i * 5 + j, none⟩ = (vs.getD i [])[j]? := by
    have hcl := @World.ownsRow.cells _ _ _ _ _ _ _ h.own
    rcases h.own.2 with ⟨e, h0⟩ | ⟨g, cap, cur, e, hB, _, h4, _⟩
    · have h1 := h.len
      exact ⟨none, 0, by rw [e, ← h1, h0], by omega, fun i hi => by omega⟩
    · refine ⟨some ⟨g, 0, none⟩, cap, by rw [e, h.len], by rw [← h.len]; exact h4, fun i hi => ⟨g, rfl, hB, fun j hj => ?_⟩⟩
      have h1 := h.len
      have hi' : i < vs.length := by omega
      have h5 := flat_get h.five i j hi' hj
      have hm : vs.getD i [] ∈ vs := by simp [List.getD, hi']
      have hl := (h.five _ hm).1
      have hlt : j < (vs.getD i []).length := by omega
      rw [List.getElem?_eq_getElem hlt] at h5 ⊢
      have := hcl (by rw [e]; rfl) (i * 5 + j) _ h5
      rw [add_lit', Nat.zero_add] at this
      exact this
  subst e
  refine .mk (fun i => .agg (vs.getD i []).toArray) hb ha hap hc (fun i hi => ?_) (fun i hi => (h.tr i (by rw [h.len]; exact hi)).mono (fun k hk _ => hk.1))
  obtain ⟨g, e, hB, hcell⟩ := hA i hi
  have hm : vs.getD i [] ∈ vs := by
    have h1 := h.len
    have hi' : i < vs.length := by omega
    simp [List.getD, hi']
  obtain ⟨x0, x1, x2, x3, x4, hx⟩ : ∃ x0 x1 x2 x3 x4, vs.getD i [] = [x0, x1, x2, x3, x4] := by
    have hl := (h.five _ hm).1
    match vs.getD i [], hl with
    | [a, b, c, d, e], _ => exact ⟨a, b, c, d, e, rfl⟩
  rw [hx] at hcell
  refine ⟨g, 0, x0, x1, x2, x3, x4, e, hp g hB, by rw [hx], ?_, ?_, ?_, ?_, ?_⟩
  all_goals rw [Nat.zero_add]
  · exact hcell 0 (by omega)
  · exact hcell 1 (by omega)
  · exact hcell 2 (by omega)
  · exact hcell 3 (by omega)
  · exact hcell 4 (by omega)
end
/-- no block at all -/
abbrev noRo : Ros := fun _ => 0
/-- what Tree answers -/
def TreP (ro : Ros) (t : Tr) (w : World) (e : Ending) (w' : World) : Prop := ∃ v, e = .returned v ∧ TrW (fun k => ro k ≠ 0 ∨ w.heap.size ≤ k) w' v t ∧ Below w.heap.size w w'
/-- attributes are few -/
def Fit (s : St) : Prop := ∀ i, (s.nd i).attrs.length ≤ 1000000
theorem trs_one {nd : Nat → Nd} {ks : List Nat} {ts : List Tr} (h : Trs nd ks ts) : ts.length = ks.length ∧ ∀ j, j < ks.length → Trs nd [ks.getD j 0] [ts.getD j tr0] := by
  induction h with
  | nil => exact ⟨rfl, fun j hj => by simp at hj⟩
  | @cons i ks ts us h1 h2 ih1 ih2 =>
    refine ⟨by simp [ih2.1], fun j hj => ?_⟩
    cases j with
    | zero => exact .cons h1 .nil
    | succ j => exact ih2.2 j (by simpa using hj)
/-- what the loop over kids keeps: the tree so far in block T, the result's block R, its attributes, its kids -/
structure LpT (ro : Ros) (w1 : World) (R Tb : Nat) (tag key text : Tx) (attrs : List Pr) (A2 : Option Addr) (a2 B : Nat) (wr : World) (v : Value) (vs : List (List Value)) (ts : List Tr) : Prop where
  tb : wr.heap[Tb]? = some (.cells #[.string tag, .string key, .string text, .slice A2 attrs.length a2, v] 31 (0, 0))
  rb : wr.heap[R]? = some (.cells #[.string ⟨#[]⟩, .string ⟨#[]⟩, .string ⟨#[]⟩, .slice none 0 0, .slice none 0 0] 31 (0, 0))
  at_ : Ps wr (.slice A2 attrs.length a2) attrs
  ap : ∀ a n c, (.slice A2 attrs.length a2 : Value) = .slice (some a) n c → (ro a.block ≠ 0 ∨ w1.heap.size ≤ a.block) ∧ a.block < B ∧ a.block ≠ Tb ∧ a.block ≠ R
  row : TrR B (fun k => (ro k ≠ 0 ∨ w1.heap.size ≤ k) ∧ k ≠ Tb ∧ k ≠ R) wr v vs ts
  lo : w1.heap.size ≤ B ∧ B ≤ wr.heap.size ∧ Tb < B ∧ R < B ∧ Tb ≠ R
  ro0 : ∀ k, ro k ≠ 0 → k < w1.heap.size
  nt : ro Tb = 0 ∧ ro R = 0
section
variable {ro : Ros} {w1 : World} {R Tb : Nat} {tag key text : Tx} {attrs : List Pr} {A2 : Option Addr} {a2 B : Nat} {wr : World} {v : Value} {vs : List (List Value)} {ts : List Tr}
theorem LpT.call (h : LpT ro w1 R Tb tag key text attrs A2 a2 B wr v vs ts) {w' : World} (hb : Below wr.heap.size wr w') : LpT ro w1 R Tb tag key text attrs A2 a2 B w' v vs ts :=
  ⟨blk_call h.tb hb, blk_call h.rb hb, h.at_.call hb, h.ap, h.row.call hb, ⟨h.lo.1, Nat.le_trans h.lo.2.1 hb.size, h.lo.2.2⟩, h.ro0, h.nt⟩
/-- a tree more, behind the append and the store -/
theorem LpT.push (h : LpT ro w1 R Tb tag key text attrs A2 a2 B wr v vs ts) {x : List Value} {t : Tr} (hx : x.length = 5 ∧ ∀ u ∈ x, u.oneCell' = true) (L : Nat) (hLB : B ≤ L) (hLv : ∀ g, v.ownBlock = some g → g < L) (ht : TrW (fun k => ro k ≠ 0 ∨ L ≤ k) wr (.agg x.toArray) t) {w2 : World} {v2 : Value}
    (ho : w2.ownsRow B 31 5 v2 (vs.length + 1) (vs.flatten ++ x)) (hg : wr.grownBy w2 v.ownBlock) (hv : v2.ownBlock = v.ownBlock ∨ v2.ownBlock = some wr.heap.size) :
    LpT ro w1 R Tb tag key text attrs A2 a2 B (w2.setCell ⟨Tb, 4, none⟩ v2) v2 (vs ++ [x]) (ts ++ [t]) := by
  obtain ⟨l1, l2, l3, l4, l5⟩ := h.lo
  have hvB : ∀ g, v.ownBlock = some g → B ≤ g := fun g hg => (h.row.own.lt g hg).1
  have hv2B : ∀ g, v2.ownBlock = some g → B ≤ g := fun g hg => (ho.lt g hg).1
  have hbk : ∀ k, k < B → w2.heap[k]? = wr.heap[k]? := fun k hk => hg.block k (by omega) (fun e => by have := hvB k e.symm; omega)
  have hk : Kp (fun k => k = Tb) w2 (w2.setCell ⟨Tb, 4, none⟩ v2) := (Kp.refl (fun k => k = Tb) w2).setCell (p := ⟨Tb, 4, none⟩) (fun _ => rfl) v2
  have htb := blk_setCell ((hbk Tb l3).trans h.tb) 4 v2
  have hrow : TrR B (fun k => (ro k ≠ 0 ∨ w1.heap.size ≤ k) ∧ k ≠ Tb ∧ k ≠ R) w2 v2 (vs ++ [x]) (ts ++ [t]) := by
    refine h.row.push hx (ht.mono (fun k hp hl => ?_)) ho hg hv
    have hroB : ro k ≠ 0 → k < w1.heap.size := h.ro0 k
    refine ⟨⟨hp.imp id (fun e => by omega), ?_, ?_⟩, fun e => ?_⟩
    · rcases hp with e | e
      · intro e2
        rw [e2] at e
        exact e h.nt.1
      · omega
    · rcases hp with e | e
      · intro e2
        rw [e2] at e
        exact e h.nt.2
      · omega
    · have e1 := hvB k e
      have e2 := hLv k e
      rcases hp with e3 | e3
      · have := hroB e3
        omega
      · omega
  refine ⟨htb, (Below.heap_setCell w2 _ v2 R (Ne.symm l5)).trans ((hbk R l4).trans h.rb), ?_, h.ap, hrow.kp hk (fun e => e.2.1 rfl) (fun e => by have := hv2B Tb e; omega), ⟨l1, by have := hg.size; simp [World.setCell]; omega, l3, l4, l5⟩, h.ro0, h.nt⟩
  refine h.at_.frame (p := fun k => k < B ∧ k ≠ Tb) (fun a n c e _ => ⟨(h.ap a n c e).2.1, (h.ap a n c e).2.2.1⟩) (fun k hp hl => (Below.heap_setCell w2 _ v2 k hp.2).trans (hbk k hp.1))
end
end Go.Proofs.Ytdbnhpghemlkbaa
