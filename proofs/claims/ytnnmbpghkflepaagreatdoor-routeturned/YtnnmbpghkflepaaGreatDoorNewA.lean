/-
  slices.Clone at segments; trie's New: the tree of the right patterns, in the order of rank.
-/
import Derived.Test.YtnnmbpghkflepaaGreatDoorWlk
import Derived.Test.YtnnmbpghkflepaaGreatDoorRws
import Derived.Test.YtnnmbpghkflepaaGreatDoorInts
namespace Go.Proofs.YtnnmbpghkflepaaGreatDoor
open Go.RowKit Go.PlainAid
set_option maxRecDepth 100000

set_option maxHeartbeats 1600000 in
theorem clone21 (v : Value) (l : List Sg) (w : World) (h : Gs w v l) (hl : l.length ≤ 10) :
    Calls Tryz.prog 43 #[v] w fun e w' => ∃ u, e = .returned u ∧ Gt w' u l ∧ Below w.heap.size w w' := by
  obtain ⟨A, cap, rfl, hcap, hA, hcc⟩ := h
  have HC := Lib.hid hcc
  have HA := Lib.hid hA
  clear hcc hA
  rcases A with _ | ad
  · have l0 : l.length = 0 := by have := HA.out rfl; omega
    have e0 : l = [] := List.eq_nil_of_length_eq_zero l0
    subst e0
    have := HA.out rfl
    subst this
    clear HC HA l0
    have q : ∀ W : World, (binOp BinOp.eql 50 (.slice none 0 0) (.slice none 0 0)).run Tryz.prog W = .ok (.bool true) W := by intro W; kernel_rfl
    show Calls Tryz.prog 43 #[.slice none 0 0] w _
    go_enter Tryz.func43, Tryz.ntmps43
    go_wp2
    go_ret
    exact ⟨_, rfl, ⟨gs_nil _, fun b o n c e => by cases e⟩, Below.refl _ _⟩
  · obtain ⟨m, hm⟩ : ∃ m, m = l.length := ⟨_, rfl⟩
    rw [← hm] at hcap hl ⊢
    have HM := Lib.hid hm
    clear hm
    have E0 := Lib.hid (empG w.heap.size w w (Below.refl _ _) (Nat.le_refl _))
    have SRC : Hid (∀ i, i < m → ∃ b' off', (some ad : Option Addr) = some ⟨b', off', none⟩ ∧ (w.alloc (.cells #[] 49 (0, 0))).cell? ⟨b', off' + i * 2, none⟩ = some (.int .i64 (l.getD i default).1) ∧ (w.alloc (.cells #[] 49 (0, 0))).cell? ⟨b', off' + i * 2 + 1, none⟩ = some (.string (l.getD i default).2)) := by
      intro i hi
      obtain ⟨b', o', e, h1, h2⟩ := HC.out i (by have := HM.out; omega)
      have hb := World.block_lt_of_cell? _ _ h1
      exact ⟨b', o', e, by rw [(blk2nd hb _ _).1]; exact h1, by rw [(blk2nd hb _ _).1]; exact h2⟩
    clear HC HA
    have q : ∀ W : World, (binOp BinOp.eql 50 (.slice (some ad) m cap) (.slice none 0 0)).run Tryz.prog W = .ok (.bool false) W := by intro W; kernel_rfl
    go_enter Tryz.func43, Tryz.ntmps43
    go_wp2_with (first | (at_builtin; refine wpList_fewG _ rfl (.tmp 5) (.tmp 6) rfl w.heap.size w _ rfl E0.out (some ad) m cap l rfl HM.out.symm hl hcap (fun e => by cases e) SRC.out ?_; intro v9 w9 h9 hg9; have H9 := Lib.hid h9; obtain ⟨A9, n9, c9, rfl⟩ := h9.gs.shape; clear h9 hg9))
    go_ret
    exact ⟨_, rfl, H9.out.gt, H9.out.2.1⟩

/-- the places of the right ones among the first k -/
def idxR (ls : List (List Sg)) (k : Nat) : List Nat := (List.range k).filter (fun i => rgB (ls.getD i default))
/-- the patterns at these places -/
def getR (ls : List (List Sg)) (N : List Nat) : List (List Sg) := N.map (fun i => ls.getD i default)
theorem idx_next (ls : List (List Sg)) (k : Nat) : idxR ls (k + 1) = idxR ls k ++ (if rgB (ls.getD k default) = true then [k] else []) := by
  rw [idxR, List.range_succ, List.filter_append]
  congr 1
  rw [List.filter_cons, List.filter_nil]
theorem idx_len (ls : List (List Sg)) (k : Nat) : (idxR ls k).length ≤ k := by
  have := List.length_filter_le (fun i => rgB (ls.getD i default)) (List.range k)
  simpa [idxR] using this
theorem owns3 {w : World} {B : Nat} {v : Value} {n : Nat} {us : List Value} (h : w.ownsRow B 3 1 v n us) : ∀ g, v.ownBlock = some g → ∃ cur fz, w.heap[g]? = some (.cells cur 3 fz) := by
  intro g hg
  obtain ⟨_, ⟨rfl, _⟩ | ⟨g', cap, cur, rfl, _, hk, _⟩⟩ := h
  · cases hg
  · cases hg
    exact ⟨cur, _, hk⟩
/-- rows of patterns beside a row of numbers that grows -/
theorem OwnL.other {B : Nat} {w0 w w' : World} {v v2 : Value} {ls : List (List Sg)} {ns : List Nat} (h : OwnL B w0 v ls w) (h2 : OwnI B w0 v2 ns w) (hg : w.grownBy w' v2.ownBlock) : OwnL B w0 v ls w' := by
  obtain ⟨us, h1, hb, hB, h4⟩ := h
  have key : ∀ (g : Nat) (cur : Array Value) (fz : Nat × Nat) (t : TypeId), w.heap[g]? = some (Obj.cells cur t fz) → t ≠ 3 → w'.heap[g]? = w.heap[g]? := by
    intro g cur fz t hk ht
    refine hg.block g (blk_lt hk) ?_
    intro e
    obtain ⟨cur', fz', hk'⟩ := owns3 h2.1 g e.symm
    rw [hk] at hk'
    cases hk'
    exact ht rfl
  refine ⟨us, rowV_frame h1 fun g hg' => ?_, hb.grown hg hB (fun k hk => (h2.1.lt k hk).1), by have := hg.size; omega, fun i hi => ?_⟩
  · obtain ⟨cur, fz, hk⟩ := owns26 h1 g hg'
    exact key g cur fz 50 hk (by decide)
  · obtain ⟨u, hu, hgu⟩ := h4 i hi
    refine ⟨u, hu, ?_⟩
    have kb : ∀ b o n c, u = .slice (some ⟨b, o, none⟩) n c → w'.heap[b]? = w.heap[b]? := by
      intro b o n c e
      obtain ⟨cur, fz, hk⟩ := hgu.2 b o n c e
      exact key b cur fz 49 hk (by decide)
    refine ⟨?_, fun b o n c e => ?_⟩
    · obtain ⟨A, cap, e, g2, g3, g4⟩ := hgu.1
      refine ⟨A, cap, e, g2, g3, fun j hj => ?_⟩
      obtain ⟨b, o, ha, hc, hd⟩ := g4 j hj
      have hk := kb b o _ cap (by rw [e, ha])
      exact ⟨b, o, ha, by rw [World.cell?_of_block (w := w) hk]; exact hc, by rw [World.cell?_of_block (w := w) hk]; exact hd⟩
    · obtain ⟨cur, fz, hk⟩ := hgu.2 b o n c e
      exact ⟨cur, fz, (kb b o n c e).trans hk⟩
/-- a row of numbers beside rows of patterns that grow -/
theorem OwnI.other {B : Nat} {w0 w w' : World} {v v2 : Value} {ls : List (List Sg)} {ns : List Nat} (h2 : OwnI B w0 v2 ns w) (h : OwnL B w0 v ls w) (hg : w.grownBy w' v.ownBlock) : OwnI B w0 v2 ns w' := by
  obtain ⟨us, h1, hb, hB, h4⟩ := h
  refine ⟨rowV_frame h2.1 fun g hg' => ?_, hb.grown hg hB (fun k hk => (h1.lt k hk).1), by have := hg.size; omega⟩
  obtain ⟨cur, fz, hk⟩ := owns3 h2.1 g hg'
  refine hg.block g (blk_lt hk) ?_
  intro e
  obtain ⟨cur', fz', hk'⟩ := owns26 h1 g e.symm
  rw [hk] at hk'
  cases hk'
theorem empI (B : Nat) (w0 w : World) (hb : Below B w0 w) (hB : B ≤ w.heap.size) : OwnI B w0 (.slice (some ⟨w.heap.size, 0, none⟩) 0 0) [] (w.alloc (.cells #[] 3 (0, 0))) :=
  ⟨World.ownsRow_made w #[] 0 hB (by unfold maxLen; omega) (by simp), hb.alloc hB _, by simp; omega⟩
theorem OwnI.shape {B : Nat} {w0 : World} {v : Value} {w : World} {ns : List Nat} (h : OwnI B w0 v ns w) : ∃ A n c, v = .slice A n c := own_shape h.1
/-- the tree with nothing in it -/
theorem tr_new (w : World) (cnt : Nat) : Tr w.heap.size w w.heap.size cnt [] (upd (fun _ => none) [] (some w.heap.size)) (upd (fun _ => none) w.heap.size (some ([], 0))) 0
    (w.alloc (.cells #[.int .i64 cnt, .map none, .pointer none, .slice none 0 0, .slice none 0 0, .slice none 0 0] 83 (0, 0))) where
  node key b hk := by
    by_cases e : key = []
    · subst e
      rw [upd_same] at hk
      cases hk
      refine ⟨none, .slice none 0 0, .slice none 0 0, .slice none 0 0, 83, ?_, upd_same _ _ _, fun t => upd_other _ _ _ (by simp), row_none _ rfl, row_none _ rfl, row_none _ rfl⟩
      rw [blk_new, upd_other _ _ _ (by simp)]
      rfl
    · rw [upd_other _ _ _ e] at hk
      cases hk
  fresh b r hr := by
    by_cases e : b = w.heap.size
    · subst e
      exact ⟨Nat.le_refl _, by simp⟩
    · rw [upd_other _ _ _ e] at hr
      cases hr
  root := upd_same _ _ _
  clos key x _ := upd_other _ _ _ (by simp)
  cov e he := by cases he
  below := (Below.refl _ _).alloc (Nat.le_refl _) _
  size := by simp
  ent e he := by cases he
theorem tx_size {l : List Sg} (h : rgB l = true) : ∀ g ∈ l, g.2.size ≤ maxLen := by
  intro g hg
  obtain ⟨j, hj, rfl⟩ := List.getElem_of_mem hg
  have := rg_ok h j hj
  rw [okB, Bool.and_eq_true, Bool.and_eq_true] at this
  have h2 := this.2.1
  rw [txB, Bool.and_eq_true] at h2
  have h3 := of_decide_eq_true h2.1
  simp only [List.getD, List.getElem?_eq_getElem hj, Option.getD_some] at h3
  unfold maxLen
  omega
end Go.Proofs.YtnnmbpghkflepaaGreatDoor
