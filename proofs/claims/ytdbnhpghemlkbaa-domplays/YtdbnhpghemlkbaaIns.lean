/-
  slices.Index, Delete, Insert over a row of numbers of one's own.
-/
import Derived.Test.YtdbnhpghemlkbaaShelf
import Derived.Test.YtdbnhpghemlkbaaFld
namespace Go.Proofs.Ytdbnhpghemlkbaa
open Go.RowKit Go.PlainAid Go.Sort Dm
set_option maxRecDepth 100000

theorem ints_of_block {w : World} {cur : Array Value} {g cap : Nat} {l : List Nat} (hg : w.heap[g]? = some (.cells cur 3 (0, 0))) (hz : cur.size = cap) (h1 : l.length ≤ cap) (h2 : cap ≤ maxLen) (hc : ∀ j, j < l.length → cur[j]? = some (.int .i64 (l.getD j 0 : Nat))) :
    w.ownsRow 0 3 1 (.slice (some ⟨g, 0, none⟩) l.length cap) l.length (niC l) := by
  refine ⟨by rw [niC_len]; omega, .inr ⟨g, cap, cur, rfl, Nat.zero_le _, hg, h1, h2, by omega, ?_⟩⟩
  apply List.ext_getElem?
  intro j
  by_cases hj : j < l.length
  · rw [List.getElem?_take_of_lt (by omega), Array.getElem?_toList, hc j hj, niC_get l j hj]
  · rw [List.getElem?_eq_none (by simp; omega), List.getElem?_eq_none (by rw [niC_len]; omega)]

theorem setCells_kp (b : Nat) : ∀ (vs : List Value) (o : Nat) (w : World), Kp (fun k => k = b) w (w.setCells b o vs) := by
  intro vs
  induction vs with
  | nil => intro o w; exact Kp.refl _ w
  | cons v r ih =>
    intro o w
    exact ((Kp.refl (fun k => k = b) w).setCell (p := ⟨b, o, none⟩) (fun _ => rfl) v).trans (ih (o + 1) (w.setCell ⟨b, o, none⟩ v)) (fun _ _ e => e)
theorem setCells_block (b : Nat) (t : TypeId) : ∀ (vs : List Value) (o : Nat) (w : World) (cs : Array Value), w.heap[b]? = some (.cells cs t (0, 0)) → o + vs.length ≤ cs.size →
    ∃ cs', (w.setCells b o vs).heap[b]? = some (.cells cs' t (0, 0)) ∧ cs'.size = cs.size ∧ (∀ x, (x < o ∨ o + vs.length ≤ x) → cs'[x]? = cs[x]?) ∧ ∀ j, j < vs.length → cs'[o + j]? = vs[j]? := by
  intro vs
  induction vs with
  | nil => intro o w cs h _; exact ⟨cs, h, rfl, fun _ _ => rfl, fun j hj => by simp at hj⟩
  | cons v r ih =>
    intro o w cs h hl
    rw [List.length_cons] at hl
    obtain ⟨cs', h1, h2, h3, h4⟩ := ih (o + 1) (w.setCell ⟨b, o, none⟩ v) (cs.setIfInBounds o v) (blk_setCell h o v) (by simp; omega)
    refine ⟨cs', h1, by simpa using h2, fun x hx => ?_, fun j hj => ?_⟩
    · rw [List.length_cons] at hx
      rw [h3 x (by omega), Array.getElem?_setIfInBounds_ne (by omega)]
    · cases j with
      | zero => rw [Nat.add_zero, h3 _ (by omega), Array.getElem?_setIfInBounds_self_of_lt (by omega)]; rfl
      | succ j =>
        rw [List.length_cons] at hj
        rw [show o + (j + 1) = o + 1 + j by omega, h4 j (by omega)]
        rfl

theorem first_ex (l : List Nat) (x : Nat) (h : x ∈ l) : ∃ p, p < l.length ∧ l.getD p 0 = x ∧ ∀ j, j < p → l.getD j 0 ≠ x := by
  induction l with
  | nil => cases h
  | cons a l ih =>
    by_cases e : a = x
    · exact ⟨0, by simp, by simpa using e, fun j hj => by omega⟩
    · obtain ⟨p, h1, h2, h3⟩ := ih (by rcases List.mem_cons.1 h with h | h; exact absurd h.symm e; exact h)
      refine ⟨p + 1, by simpa using h1, by simpa using h2, fun j hj => ?_⟩
      cases j with
      | zero => simpa using e
      | succ j => simpa using h3 j (by omega)
theorem ints_get (l : List Nat) (j : Nat) : (l.map (fun k : Nat => (k : Int))).getD j 0 = (l.getD j 0 : Nat) := by
  simp only [List.getD, List.getElem?_map]
  cases l[j]? <;> rfl

theorem index38 (l : List Nat) (x : Nat) (v : Value) (w : World) (h : w.ownsRow 0 3 1 v l.length (niC l)) (hx : x ∈ l) (hn : l.length ≤ 1000000) :
    Calls Try.prog 38 #[v, .int .i64 x] w fun e w' => (∃ p : Nat, p < l.length ∧ l.getD p 0 = x ∧ e = .returned (.int .i64 p)) ∧ w' = w := by
  obtain ⟨p, h1, h2, h3⟩ := first_ex l x hx
  have hcl := @World.ownsRow.cells _ _ _ _ _ _ _ h
  rcases h.2 with ⟨rfl, h0⟩ | ⟨g, cap, cur, rfl, _, hg, hc, hm, _, ht⟩
  · omega
  · have := Any.slices_Index_int Try.lays108 g 0 l.length cap (l.map (fun k : Nat => (k : Int))) x w (by simp) (by omega) (fun j hj => by
      rw [List.length_map] at hj
      have := hcl rfl j _ (niC_get l j hj)
      rw [Addr.add_lit] at this
      rw [this, ints_get])
    refine this.mono ?_
    rintro e w' ⟨rfl, rfl⟩
    refine ⟨⟨p, h1, h2, ?_⟩, rfl⟩
    rw [Lib.idxOf_hit _ l.length p x h1 (by simp) (by rw [ints_get, h2]) (fun j hj => by rw [ints_get]; have := h3 j hj; omega)]

theorem delete39 (l : List Nat) (p : Nat) (v : Value) (w : World) (h : w.ownsRow 0 3 1 v l.length (niC l)) (hp : p < l.length) :
    Calls Try.prog 39 #[v, .int .i64 p, .int .i64 ((p : Int) + 1)] w fun e w' => ∃ v', e = .returned v' ∧ w'.ownsRow 0 3 1 v' (l.take p ++ l.drop (p + 1)).length (niC (l.take p ++ l.drop (p + 1))) ∧ v'.ownBlock = v.ownBlock ∧ Kp (fun k => v.ownBlock = some k) w w' := by
  have hcl := @World.ownsRow.cells _ _ _ _ _ _ _ h
  rcases h.2 with ⟨rfl, h0⟩ | ⟨g, cap, cur, rfl, _, hg, hc, hm, hz, ht⟩
  · omega
  · have hlen : (l.map (fun k : Nat => (k : Int))).length = l.length := by simp
    have key := Any.slices_Delete_int Try.laysNm223 g 0 cap p (p + 1) (l.map (fun k : Nat => (k : Int))) w (fun j hj => by
      have hj' : j < l.length := by simpa using hj
      have := hcl rfl j _ (niC_get l j hj')
      rw [Addr.add_lit] at this
      refine ⟨?_, blk_frozen hg _⟩
      rw [this]
      simp [List.getD, hj']) (by rw [hlen]; exact hc) (by unfold maxLen at hm; omega) (by omega) (by rw [hlen]; omega)
    rw [hlen, show p + 1 - p = 1 by omega] at key
    have hN : (l.take p ++ l.drop (p + 1)).length = l.length - 1 := by simp; omega
    refine key.mono ?_
    rintro e w' ⟨rfl, q, rfl⟩
    refine ⟨_, rfl, ?_, rfl, ?_⟩
    · have hblk : (Sort.ahead w q).heap[g]? = some (.cells cur 3 (0, 0)) := hg
      have hb2 : (putRow (Value.int .i64) (Sort.ahead w q) g 0 ((l.map (fun k : Nat => (k : Int))).take p ++ (l.map (fun k : Nat => (k : Int))).drop (p + 1) ++ List.replicate 1 0).toArray).heap[g]? = some (Obj.cells (putCells (Value.int .i64) 0 ((l.map (fun k : Nat => (k : Int))).take p ++ (l.map (fun k : Nat => (k : Int))).drop (p + 1) ++ List.replicate 1 0).toArray cur) 3 (0, 0)) := by
        show ((Sort.ahead w q).heap.modify g _)[g]? = _
        rw [Array.getElem?_modify, if_pos rfl, hblk]
        rfl
      have := ints_of_block (l := l.take p ++ l.drop (p + 1)) hb2 (by simp [putCells, hz]) (by rw [hN]; omega) hm (fun j hj => ?_)
      · rw [hN] at this ⊢
        exact this
      · rw [hN] at hj
        have hjc : j < cur.size := by omega
        simp only [putCells, Array.getElem?_mapIdx, Array.getElem?_eq_getElem hjc, Option.map_some]
        rw [if_pos ⟨by omega, by simp; omega⟩]
        congr 2
        have e1 : ((l.map (fun k : Nat => (k : Int))).take p ++ (l.map (fun k : Nat => (k : Int))).drop (p + 1) ++ List.replicate 1 0).toArray[j - 0]! = ((l.map (fun k : Nat => (k : Int))).take p ++ (l.map (fun k : Nat => (k : Int))).drop (p + 1))[j]?.getD 0 := by
          rw [Nat.sub_zero, List.getElem!_toArray, List.getElem!_eq_getElem?_getD]
          rw [List.getElem?_append_left (by simp; omega)]
          rfl
        rw [e1, ← List.map_take, ← List.map_drop, ← List.map_append, List.getElem?_map]
        simp only [List.getD]
        cases (l.take p ++ l.drop (p + 1))[j]? <;> rfl
    · refine ⟨rfl, rfl, rfl, by simp [putRow, mapBlock, Sort.ahead], fun k _ hk => ?_⟩
      have hne : g ≠ k := fun e => hk (by simp [Value.ownBlock, e])
      simp [putRow, mapBlock, Sort.ahead, Array.getElem?_modify, hne]

theorem insL_len (l : List Nat) (k c : Nat) (h : k ≤ l.length) : (insL l k c).length = l.length + 1 := by
  unfold insL
  simp
  omega
theorem insL_get (l : List Nat) (k c j : Nat) (h : k ≤ l.length) : (insL l k c).getD j 0 = if j < k then l.getD j 0 else if j = k then c else l.getD (j - 1) 0 := by
  unfold insL
  simp only [List.getD]
  by_cases h1 : j < k
  · rw [if_pos h1, List.getElem?_append_left (by simp; omega), List.getElem?_take_of_lt h1]
  · rw [if_neg h1, List.getElem?_append_right (by simp; omega)]
    have e : (l.take k).length = k := by simp; omega
    rw [e]
    by_cases h2 : j = k
    · subst h2
      rw [if_pos rfl, Nat.sub_self]
      rfl
    · rw [if_neg h2]
      obtain ⟨m, hm⟩ : ∃ m, j - k = m + 1 := ⟨j - k - 1, by omega⟩
      rw [hm, List.getElem?_cons_succ, List.getElem?_drop]
      congr 2
      omega
/-- what Insert answers -/
def InsP (v : Value) (l : List Nat) (w : World) (e : Ending) (w' : World) : Prop := ∃ v', e = .returned v' ∧ w'.ownsRow 0 3 1 v' l.length (niC l) ∧ (∀ g, v'.ownBlock = some g → v.ownBlock = some g ∨ w.heap.size ≤ g) ∧ Kp (fun k => v.ownBlock = some k) w w'

theorem zeros_size (z : Array Value) (n : Nat) : (Builtin.zeroCells z n).size = n * z.size := by simp [Builtin.zeroCells]

theorem insert36 (l : List Nat) (i x vb : Nat) (v : Value) (w : World) (h : w.ownsRow 0 3 1 v l.length (niC l)) (hi : i ≤ l.length) (hn : l.length ≤ 1000000) (hvb : w.heap[vb]? = some (.cells #[.int .i64 (x : Int)] 3 (0, 0))) (hne : v.ownBlock ≠ some vb) :
    Calls Try.prog 36 #[v, .int .i64 i, .slice (some ⟨vb, 0, none⟩) 1 1] w (InsP v (insL l i x) w) := by
  have hcl := @World.ownsRow.cells _ _ _ _ _ _ _ h
  have hL := insL_len l i x hi
  have hvs : ∀ j u, [Value.int .i64 (x : Int)][j]? = some u → w.cell? ⟨vb, 0 + j, none⟩ = some u := fun j u hu => by
    have hj : j = 0 := by
      have := (List.getElem?_eq_some_iff.1 hu).1
      simp at this
      omega
    subst hj
    rw [blk_cell hvb]
    simpa using hu
  have h1v : ∀ u ∈ [Value.int .i64 (x : Int)], u.oneCell' = true := by intro u hu; simp at hu; subst hu; rfl
  rcases h.2 with ⟨rfl, h0⟩ | ⟨g, cap, cur, rfl, _, hg, hc, hm, hz, ht⟩
  · obtain rfl : l = [] := List.eq_nil_of_length_eq_zero h0
    obtain rfl : i = 0 := by simpa using hi
    have key := Any2.slices_Insert_int_end_grow Try.laysNm221 none 0 0 vb 0 1 1 [] [.int .i64 (x : Int)] w (by omega) (by omega) (by omega) (by omega) rfl rfl (fun _ => rfl) (fun a e => by cases e) hvs h1v
    refine key.mono ?_
    rintro e w' ⟨rfl, rfl⟩
    have hcap := grownCap_ge w 1 0 (Try.laysNm221_ren.t 3)
    have hmx := grownCap_le_maxLen w 1 0 (Try.laysNm221_ren.t 3) (by unfold maxLen; omega)
    refine ⟨_, rfl, ints_of_block (l := insL [] 0 x) (heap_alloc_new w.drew _) ?_ (by rw [hL]; exact hcap) hmx (fun j hj => ?_), fun g hg => Or.inr (by cases hg; exact Nat.le_refl _), ?_⟩
    · simp [zeros_size, Value.cells]
      omega
    · rw [hL] at hj
      obtain rfl : j = 0 := by simpa using hj
      rw [Array.getElem?_append_left (by simp)]
      rfl
    · exact Kp.of_below (((Below.refl _ w).drew).alloc (Nat.le_refl _) _) _
  · have hcs : ∀ j u, (niC l)[j]? = some u → w.cell? ⟨g, 0 + j, none⟩ = some u := fun j u hu => by
      have := hcl rfl j u hu
      rwa [Addr.add_lit] at this
    have hb : (l.length + 1) * 8 ≤ 140737488355328 := by omega
    have hcur : ∀ j, j < l.length → cur[j]? = some (.int .i64 (l.getD j 0 : Nat)) := fun j hj => by
      rw [← niC_get l j hj, ← ht, List.getElem?_take_of_lt (by omega), Array.getElem?_toList]
    have hgv : vb ≠ g := fun e => hne (by rw [e]; rfl)
    by_cases hroom : l.length + 1 ≤ cap
    · by_cases hlt : i < l.length
      · have key := Any2.slices_Insert_int_shift Try.laysNm221 g 0 l.length cap i vb 0 1 1 (niC l) [.int .i64 (x : Int)] w hlt (by omega) hroom (by unfold maxLen at hm; omega) hgv (niC_len l) rfl hcs
          (fun j hj => by rw [blk_cell hg, Array.getElem?_eq_getElem (by omega)]; rfl) (fun j hj => blk_frozen hg _) hvs (niC_one l) h1v 3 3 1 (cap * 1) (by simp [World.shape?, hvb]) (by simp [World.shape?, hg, hz]) (by omega) (blk_frozen hvb _) (blk_frozen hvb _)
        refine key.mono ?_
        rintro e w' ⟨rfl, rfl⟩
        obtain ⟨c1, k1, k2, k3, k4⟩ := setCells_block g 3 ((niC l).drop i) (0 + (i + 1)) w.drew cur hg (by simp [niC_len]; omega)
        obtain ⟨c2, m1, m2, m3, m4⟩ := setCells_block g 3 [.int .i64 (x : Int)] (0 + i) _ c1 k1 (by simp; omega)
        have key2 := ints_of_block (l := insL l i x) m1 (show c2.size = cap by omega) (by omega) hm (fun j hj => ?_)
        · rw [hL] at key2
          refine ⟨_, rfl, by rw [hL]; exact key2, fun g' hg' => Or.inl hg', ?_⟩
          exact ((Kp.refl (fun k => (Value.slice (some ⟨g, 0, none⟩) l.length cap).ownBlock = some k) w).drew.trans (setCells_kp g _ _ _) (fun k _ e => by rw [e]; rfl)).trans (setCells_kp g _ _ _) (fun k _ e => by rw [e]; rfl)
        · rw [hL] at hj
          rw [insL_get l i x j hi]
          by_cases a : j < i
          · rw [if_pos a, m3 j (by simp; omega), k3 j (by omega), hcur j (by omega)]
          · rw [if_neg a]
            by_cases b : j = i
            · subst b
              have := m4 0 (by simp)
              simp only [Nat.add_zero, Nat.zero_add] at this
              rw [if_pos rfl, this]
              rfl
            · rw [if_neg b, m3 j (by simp; omega)]
              have := k4 (j - 1 - i) (by simp [niC_len]; omega)
              rw [show 0 + (i + 1) + (j - 1 - i) = j by omega, List.getElem?_drop, show i + (j - 1 - i) = j - 1 by omega, niC_get l (j - 1) (by omega)] at this
              rw [this]
      · obtain rfl : i = l.length := by omega
        have key := Any2.slices_Insert_int_end_room Try.laysNm221 g 0 l.length cap vb 0 1 1 [.int .i64 (x : Int)] w (by omega) hroom (by unfold maxLen at hm; omega) rfl (fun j hj => by rw [blk_cell hg, Array.getElem?_eq_getElem (by omega)]; rfl) (fun j hj => blk_frozen hg _) hvs h1v
        refine key.mono ?_
        rintro e w' ⟨rfl, rfl⟩
        obtain ⟨c2, m1, m2, m3, m4⟩ := setCells_block g 3 [.int .i64 (x : Int)] (0 + l.length) w cur hg (by simp; omega)
        have key2 := ints_of_block (l := insL l l.length x) m1 (show c2.size = cap by omega) (by omega) hm (fun j hj => ?_)
        · rw [hL] at key2
          refine ⟨_, rfl, by rw [hL]; exact key2, fun g' hg' => Or.inl hg', ?_⟩
          exact (setCells_kp g _ _ w).mono (fun k _ e => by rw [e]; rfl)
        · rw [hL] at hj
          rw [insL_get l l.length x j hi]
          by_cases a : j < l.length
          · rw [if_pos a, m3 j (by omega), hcur j a]
          · obtain rfl : j = l.length := by omega
            have := m4 0 (by simp)
            simp only [Nat.add_zero, Nat.zero_add] at this
            rw [if_neg a, if_pos rfl, this]
            rfl
    · have hcap := grownCap_ge w (l.length + 1) cap (Try.laysNm221_ren.t 3)
      have hmx := grownCap_le_maxLen w (l.length + 1) cap (Try.laysNm221_ren.t 3) (by unfold maxLen; omega)
      by_cases hlt : i < l.length
      · have key := Any2.slices_Insert_int_grow Try.laysNm221 g 0 l.length cap i vb 0 1 1 (niC l) [.int .i64 (x : Int)] w hlt (by omega) hc (by omega) hb (niC_len l) rfl hcs hvs (niC_one l) h1v
        refine key.mono ?_
        rintro e w' ⟨rfl, rfl⟩
        generalize hG : grownCap w (l.length + 1) cap (Try.laysNm221_ren.t 3) = G at *
        have hblk := heap_alloc_new w (.cells (((niC l).take i).toArray ++ Builtin.zeroCells (Value.int .i64 0).cells (l.length + 1 - i) ++ Builtin.zeroCells (Value.int .i64 0).cells (G - (l.length + 1))) 3)
        have hsz : (((niC l).take i).toArray ++ Builtin.zeroCells (Value.int .i64 0).cells (l.length + 1 - i) ++ Builtin.zeroCells (Value.int .i64 0).cells (G - (l.length + 1))).size = G := by
          simp [zeros_size, Value.cells, niC_len]
          omega
        obtain ⟨c1, k1, k2, k3, k4⟩ := setCells_block w.heap.size 3 [.int .i64 (x : Int)] i (w.alloc (.cells (((niC l).take i).toArray ++ Builtin.zeroCells (Value.int .i64 0).cells (l.length + 1 - i) ++ Builtin.zeroCells (Value.int .i64 0).cells (G - (l.length + 1))) 3)).drew _ hblk (by rw [hsz]; simp; omega)
        obtain ⟨c2, m1, m2, m3, m4⟩ := setCells_block w.heap.size 3 ((niC l).drop i) (i + 1) (World.drew (World.setCells (w.alloc (.cells (((niC l).take i).toArray ++ Builtin.zeroCells (Value.int .i64 0).cells (l.length + 1 - i) ++ Builtin.zeroCells (Value.int .i64 0).cells (G - (l.length + 1))) 3)).drew w.heap.size i [.int .i64 (x : Int)])) c1 k1 (by rw [k2, hsz]; simp [niC_len]; omega)
        have key2 := ints_of_block (l := insL l i x) m1 (show c2.size = G by omega) (by omega) hmx (fun j hj => ?_)
        · rw [hL] at key2
          refine ⟨_, rfl, by rw [hL]; exact key2, fun g' hg' => Or.inr (by cases hg'; exact Nat.le_refl _), ?_⟩
          have B0 : Kp (fun _ => False) w (w.alloc (.cells (((niC l).take i).toArray ++ Builtin.zeroCells (Value.int .i64 0).cells (l.length + 1 - i) ++ Builtin.zeroCells (Value.int .i64 0).cells (G - (l.length + 1))) 3)) := (Kp.refl _ w).alloc _
          exact (((B0.drew.mono (T := fun k => (Value.slice (some ⟨g, 0, none⟩) l.length cap).ownBlock = some k) (fun _ _ e => e.elim)).trans (setCells_kp w.heap.size _ _ _) (fun k hk e => by omega)).drew).trans (setCells_kp w.heap.size _ _ _) (fun k hk e => by omega)
        · rw [hL] at hj
          rw [insL_get l i x j hi]
          by_cases a : j < i
          · rw [if_pos a, m3 j (by omega), k3 j (by omega), Array.getElem?_append_left (by simp [zeros_size, Value.cells, niC_len]; omega), Array.getElem?_append_left (by simp [niC_len]; omega), List.getElem?_toArray, List.getElem?_take_of_lt a, niC_get l j (by omega)]
          · rw [if_neg a]
            by_cases b : j = i
            · subst b
              have := k4 0 (by simp)
              simp only [Nat.add_zero] at this
              rw [if_pos rfl, m3 j (by omega), this]
              rfl
            · rw [if_neg b]
              have := m4 (j - 1 - i) (by simp [niC_len]; omega)
              rw [show i + 1 + (j - 1 - i) = j by omega, List.getElem?_drop, show i + (j - 1 - i) = j - 1 by omega, niC_get l (j - 1) (by omega)] at this
              rw [this]
      · obtain rfl : i = l.length := by omega
        have key := Any2.slices_Insert_int_end_grow Try.laysNm221 (some ⟨g, 0, none⟩) l.length cap vb 0 1 1 (niC l) [.int .i64 (x : Int)] w (by omega) hc (by omega) hb (niC_len l) rfl (fun e => by cases e) (fun a e j u hu => by cases e; rw [Addr.add_lit]; exact hcs j u hu) hvs h1v
        refine key.mono ?_
        rintro e w' ⟨rfl, rfl⟩
        generalize hG : grownCap w (l.length + 1) cap (Try.laysNm221_ren.t 3) = G at *
        have key2 := ints_of_block (l := insL l l.length x) (heap_alloc_new w.drew (.cells ((niC l ++ [Value.int .i64 (x : Int)]).toArray ++ Builtin.zeroCells (Value.int .i64 0).cells (G - (l.length + 1))) 3)) (show _ = G by simp [zeros_size, Value.cells, niC_len]; omega) (by omega) hmx (fun j hj => ?_)
        · rw [hL] at key2
          refine ⟨_, rfl, by rw [hL]; exact key2, fun g' hg' => Or.inr (by cases hg'; exact Nat.le_refl _), ?_⟩
          exact Kp.of_below (((Below.refl _ w).drew).alloc (Nat.le_refl _) _) _
        · rw [hL] at hj
          rw [insL_get l l.length x j hi, Array.getElem?_append_left (by simp [niC_len]; omega), List.getElem?_toArray]
          by_cases a : j < l.length
          · rw [if_pos a, List.getElem?_append_left (by rw [niC_len]; exact a), niC_get l j a]
          · obtain rfl : j = l.length := by omega
            rw [if_neg a, if_pos rfl, List.getElem?_append_right (by rw [niC_len]; omega), niC_len, Nat.sub_self]
            rfl
end Go.Proofs.Ytdbnhpghemlkbaa
