/-
  Put together: NewA, New.
-/
import Derived.Test.YthigandmemifoaaGreatDoorP20
import Derived.Test.YthigandmemifoaaGreatDoorP06
import Derived.Test.YthigandmemifoaaGreatDoorP09
namespace Go.Proofs.YthigandmemifoaaGreatDoor
open Go.RowKit Go.PlainAid
set_option maxRecDepth 100000

set_option maxHeartbeats 1600000 in
theorem clone21 (v : Value) (l : List Sg) (w : World) (h : Gs w v l) (hl : l.length ≤ 10) :
    Calls Tryz.prog 80 #[v] w fun e w' => ∃ u, e = .returned u ∧ Gt w' u l ∧ Below w.heap.size w w' := by
  obtain ⟨A, cap, rfl, hcap, hA, hcc⟩ := h
  have HC := Lib.hid hcc
  have HA := Lib.hid hA
  clear hcc hA
  rcases A with _ | ad
  · have l0 : l.length = 0 := by have := HA.out rfl; omega
    have e0 : l = [] := List.eq_nil_of_length_eq_zero l0
    subst e0
    have := HA.out rfl
    subst this
    clear HC HA l0
    have q : ∀ W : World, (binOp BinOp.eql 24 (.slice none 0 0) (.slice none 0 0)).run Tryz.prog W = .ok (.bool true) W := by intro W; kernel_rfl
    show Calls Tryz.prog 80 #[.slice none 0 0] w _
    go_enter Tryz.func80, Tryz.ntmps80
    go_wp2
    go_ret
    exact ⟨_, rfl, ⟨gs_nil _, fun b o n c e => by cases e⟩, Below.refl _ _⟩
  · obtain ⟨m, hm⟩ : ∃ m, m = l.length := ⟨_, rfl⟩
    rw [← hm] at hcap hl ⊢
    have HM := Lib.hid hm
    clear hm
    have E0 := Lib.hid (empG w.heap.size w w (Below.refl _ _) (Nat.le_refl _))
    have SRC : Hid (∀ i, i < m → ∃ b' off', (some ad : Option Addr) = some ⟨b', off', none⟩ ∧ (w.alloc (.cells #[] 28 (0, 0))).cell? ⟨b', off' + i * 2, none⟩ = some (.int .i64 (l.getD i default).1) ∧ (w.alloc (.cells #[] 28 (0, 0))).cell? ⟨b', off' + i * 2 + 1, none⟩ = some (.string (l.getD i default).2)) := by
      intro i hi
      obtain ⟨b', o', e, h1, h2⟩ := HC.out i (by have := HM.out; omega)
      have hb := World.block_lt_of_cell? _ _ h1
      exact ⟨b', o', e, by rw [(blk2nd hb _ _).1]; exact h1, by rw [(blk2nd hb _ _).1]; exact h2⟩
    clear HC HA
    have q : ∀ W : World, (binOp BinOp.eql 24 (.slice (some ad) m cap) (.slice none 0 0)).run Tryz.prog W = .ok (.bool false) W := by intro W; kernel_rfl
    go_enter Tryz.func80, Tryz.ntmps80
    go_wp2_with (first | (at_builtin; refine wpList_fewG _ rfl (.tmp 5) (.tmp 6) rfl w.heap.size w _ rfl E0.out (some ad) m cap l rfl HM.out.symm hl hcap (fun e => by cases e) SRC.out ?_; intro v9 w9 h9 hg9; have H9 := Lib.hid h9; obtain ⟨A9, n9, c9, rfl⟩ := h9.gs.shape; clear h9 hg9))
    go_ret
    exact ⟨_, rfl, H9.out.gt, H9.out.2.1⟩

/-- the places of the right ones among the first k -/
def idxR (ls : List (List Sg)) (k : Nat) : List Nat := (List.range k).filter (fun i => rgB (ls.getD i default))
/-- the patterns at these places -/
def getR (ls : List (List Sg)) (N : List Nat) : List (List Sg) := N.map (fun i => ls.getD i default)
theorem idx_next (ls : List (List Sg)) (k : Nat) : idxR ls (k + 1) = idxR ls k ++ (if rgB (ls.getD k default) = true then [k] else []) := by
  rw [idxR, List.range_succ, List.filter_append]
  congr 1
  rw [List.filter_cons, List.filter_nil]
theorem idx_len (ls : List (List Sg)) (k : Nat) : (idxR ls k).length ≤ k := by
  have := List.length_filter_le (fun i => rgB (ls.getD i default)) (List.range k)
  simpa [idxR] using this
theorem owns3 {w : World} {B : Nat} {v : Value} {n : Nat} {us : List Value} (h : w.ownsRow B 3 1 v n us) : ∀ g, v.ownBlock = some g → ∃ cur fz, w.heap[g]? = some (.cells cur 3 fz) := by
  intro g hg
  obtain ⟨_, ⟨rfl, _⟩ | ⟨g', cap, cur, rfl, _, hk, _⟩⟩ := h
  · cases hg
  · cases hg
    exact ⟨cur, _, hk⟩
/-- rows of patterns beside a row of numbers that grows -/
theorem OwnL.other {B : Nat} {w0 w w' : World} {v v2 : Value} {ls : List (List Sg)} {ns : List Nat} (h : OwnL B w0 v ls w) (h2 : OwnI B w0 v2 ns w) (hg : w.grownBy w' v2.ownBlock) : OwnL B w0 v ls w' := by
  obtain ⟨us, h1, hb, hB, h4⟩ := h
  have key : ∀ (g : Nat) (cur : Array Value) (fz : Nat × Nat) (t : TypeId), w.heap[g]? = some (Obj.cells cur t fz) → t ≠ 3 → w'.heap[g]? = w.heap[g]? := by
    intro g cur fz t hk ht
    refine hg.block g (blk_lt hk) ?_
    intro e
    obtain ⟨cur', fz', hk'⟩ := owns3 h2.1 g e.symm
    rw [hk] at hk'
    cases hk'
    exact ht rfl
  refine ⟨us, rowV_frame h1 fun g hg' => ?_, hb.grown hg hB (fun k hk => (h2.1.lt k hk).1), by have := hg.size; omega, fun i hi => ?_⟩
  · obtain ⟨cur, fz, hk⟩ := owns26 h1 g hg'
    exact key g cur fz 24 hk (by decide)
  · obtain ⟨u, hu, hgu⟩ := h4 i hi
    refine ⟨u, hu, ?_⟩
    have kb : ∀ b o n c, u = .slice (some ⟨b, o, none⟩) n c → w'.heap[b]? = w.heap[b]? := by
      intro b o n c e
      obtain ⟨cur, fz, hk⟩ := hgu.2 b o n c e
      exact key b cur fz 28 hk (by decide)
    refine ⟨?_, fun b o n c e => ?_⟩
    · obtain ⟨A, cap, e, g2, g3, g4⟩ := hgu.1
      refine ⟨A, cap, e, g2, g3, fun j hj => ?_⟩
      obtain ⟨b, o, ha, hc, hd⟩ := g4 j hj
      have hk := kb b o _ cap (by rw [e, ha])
      exact ⟨b, o, ha, by rw [World.cell?_of_block (w := w) hk]; exact hc, by rw [World.cell?_of_block (w := w) hk]; exact hd⟩
    · obtain ⟨cur, fz, hk⟩ := hgu.2 b o n c e
      exact ⟨cur, fz, (kb b o n c e).trans hk⟩
/-- a row of numbers beside rows of patterns that grow -/
theorem OwnI.other {B : Nat} {w0 w w' : World} {v v2 : Value} {ls : List (List Sg)} {ns : List Nat} (h2 : OwnI B w0 v2 ns w) (h : OwnL B w0 v ls w) (hg : w.grownBy w' v.ownBlock) : OwnI B w0 v2 ns w' := by
  obtain ⟨us, h1, hb, hB, h4⟩ := h
  refine ⟨rowV_frame h2.1 fun g hg' => ?_, hb.grown hg hB (fun k hk => (h1.lt k hk).1), by have := hg.size; omega⟩
  obtain ⟨cur, fz, hk⟩ := owns3 h2.1 g hg'
  refine hg.block g (blk_lt hk) ?_
  intro e
  obtain ⟨cur', fz', hk'⟩ := owns26 h1 g e.symm
  rw [hk] at hk'
  cases hk'
theorem empI (B : Nat) (w0 w : World) (hb : Below B w0 w) (hB : B ≤ w.heap.size) : OwnI B w0 (.slice (some ⟨w.heap.size, 0, none⟩) 0 0) [] (w.alloc (.cells #[] 3 (0, 0))) :=
  ⟨World.ownsRow_made w #[] 0 hB (by unfold maxLen; omega) (by simp), hb.alloc hB _, by simp; omega⟩
theorem OwnI.shape {B : Nat} {w0 : World} {v : Value} {w : World} {ns : List Nat} (h : OwnI B w0 v ns w) : ∃ A n c, v = .slice A n c := own_shape h.1
/-- the tree with nothing in it -/
theorem tr_new (w : World) (cnt : Nat) : Tr w.heap.size w w.heap.size cnt [] (upd (fun _ => none) [] (some w.heap.size)) (upd (fun _ => none) w.heap.size (some ([], 0))) 0
    (w.alloc (.cells #[.int .i64 cnt, .map none, .pointer none, .slice none 0 0, .slice none 0 0, .slice none 0 0] 129 (0, 0))) where
  node key b hk := by
    by_cases e : key = []
    · subst e
      rw [upd_same] at hk
      cases hk
      refine ⟨none, .slice none 0 0, .slice none 0 0, .slice none 0 0, 129, ?_, upd_same _ _ _, fun t => upd_other _ _ _ (by simp), row_none _ rfl, row_none _ rfl, row_none _ rfl⟩
      rw [blk_new, upd_other _ _ _ (by simp)]
      rfl
    · rw [upd_other _ _ _ e] at hk
      cases hk
  fresh b r hr := by
    by_cases e : b = w.heap.size
    · subst e
      exact ⟨Nat.le_refl _, by simp⟩
    · rw [upd_other _ _ _ e] at hr
      cases hr
  root := upd_same _ _ _
  clos key x _ := upd_other _ _ _ (by simp)
  cov e he := by cases he
  below := (Below.refl _ _).alloc (Nat.le_refl _) _
  size := by simp
  ent e he := by cases he
theorem tx_size {l : List Sg} (h : rgB l = true) : ∀ g ∈ l, g.2.size ≤ maxLen := by
  intro g hg
  obtain ⟨j, hj, rfl⟩ := List.getElem_of_mem hg
  have := rg_ok h j hj
  rw [okB, Bool.and_eq_true, Bool.and_eq_true] at this
  have h2 := this.2.1
  rw [txB, Bool.and_eq_true] at h2
  have h3 := of_decide_eq_true h2.1
  simp only [List.getD, List.getElem?_eq_getElem hj, Option.getD_some] at h3
  unfold maxLen
  omega
end Go.Proofs.YthigandmemifoaaGreatDoor

namespace Go.Proofs.YthigandmemifoaaGreatDoor
open Go.RowKit Go.PlainAid
set_option maxRecDepth 100000

/-- what New comes to: a tree of the right ones, in order -/
def NewPost (ls : List (List Sg)) (w : World) (e : Ending) (w' : World) : Prop :=
  ∃ T B w0 es nd ro c ps, e = .returned (.pointer (some ⟨T, 0, none⟩)) ∧ Tr B w0 T (idxR ls ls.length).length es nd ro c w' ∧ w0.heap.size ≤ B ∧ Below w.heap.size w w' ∧ Places (getR ls (idxR ls ls.length)) ps ∧
    es.map (fun e => (e.n, e.l)) = ps.map (fun p => ((idxR ls ls.length).getD p 0, (getR ls (idxR ls ls.length)).getD p default))
/-- where New's second loop is -/
def NewMid (R : List (List Sg)) (N ps : List Nat) (wz w5 : World) (k : Nat) (wr : World) : Prop :=
  ∃ es nd ro, Tr wz.heap.size wz wz.heap.size N.length es nd ro (k * 8) wr ∧ es.map (fun e => (e.n, e.l)) = (ps.take k).map (fun p => (N.getD p 0, R.getD p default)) ∧ es.length = k ∧
    w5.heap.size ≤ wr.heap.size ∧ ∀ g, g < w5.heap.size → g ≠ wz.heap.size → ro g = none ∧ wr.heap[g]? = w5.heap[g]?
theorem take_nat {f : Nat → Nat × List Sg} (l : List Nat) (k : Nat) (h : k < l.length) : (l.take (k + 1)).map f = (l.take k).map f ++ [f (l.getD k 0)] := by
  have e : l.take (k + 1) = l.take k ++ [l.getD k 0] := by
    rw [List.take_add_one]
    simp only [List.getD, List.getElem?_eq_getElem h, Option.toList_some, Option.getD_some]
  rw [e, List.map_append]
  rfl

theorem ni_len {w : World} {v : Value} {ps : List Nat} (h : Ni w v ps) : ∃ A c, v = .slice A ps.length c := by
  obtain ⟨A, cap, e, _⟩ := h
  exact ⟨_, _, e⟩
theorem pl_lt {ls : List (List Sg)} {ps : List Nat} (h : Places ls ps) {k : Nat} (hk : k < ps.length) : ps.getD k 0 < ls.length := by
  have hm : ps.getD k 0 ∈ ps := by simp [List.getD, hk]
  have := (h.1.mem_iff).1 hm
  simpa using this
set_option maxHeartbeats 6400000 in
theorem new6 (v : Value) (ls : List (List Sg)) (w : World) (hg : Gss w v ls) (h12 : ls.length ≤ 1000) :
    Calls Tryz.prog 63 #[v] w (NewPost ls w) := by
  obtain ⟨A, cap, rfl, _, _, hc⟩ := hg
  have HC := Lib.hid hc
  clear hc
  have E1 := Lib.hid (empL w.heap.size w w (Below.refl _ _) (Nat.le_refl _))
  have E2 := Lib.hid (empI w.heap.size w (w.alloc (.cells #[] 24 (0, 0))) ((Below.refl _ _).alloc (Nat.le_refl _) _) (by simp))
  go_enter Tryz.func63, Tryz.ntmps63
  go_wp2_with fail
  have E1' := Lib.hid (E1.out.alloc (.cells #[] 3 (0, 0)))
  have E2' : Hid (OwnI w.heap.size w (.slice (some ⟨w.heap.size + 1, 0, none⟩) 0 0) [] ((w.alloc (.cells #[] 24 (0, 0))).alloc (.cells #[] 3 (0, 0)))) := by
    have := E2.out
    simp at this
    exact this
  clear E1 E2
  generalize (w.alloc (.cells #[] 24)).alloc (.cells #[] 3) = w1 at *
  go_loopw [3, 4, 14] (fun rv nv i wr => ∃ k : Nat, k ≤ ls.length ∧ i = .int .i64 k ∧ OwnL w.heap.size w rv (getR ls (idxR ls k)) wr ∧ OwnI w.heap.size w nv (idxR ls k) wr) (fun _ _ i _ => ls.length - (intOf i).toNat)
  case atStart => exact ⟨0, Nat.zero_le _, rfl, E1'.out, E2'.out⟩
  case round =>
    obtain ⟨k, hk, rfl, hl, hi⟩ := hrel
    have HL := Lib.hid hl
    have HI := Lib.hid hi
    obtain ⟨A3, n3, c3, rfl⟩ := hl.shape
    obtain ⟨A4, n4, c4, rfl⟩ := hi.shape
    clear hl hi E1' E2'
    by_cases hlt : k < ls.length
    · have d0 : (k : Int) < (ls.length : Int) := by omega
      obtain ⟨x, o, u, rfl, hcell, hu⟩ := HC.out k hlt
      have g1 : wr.cell? ⟨x, o + k, none⟩ = some u := by rw [HL.out.below.cell (World.block_lt_of_cell? _ _ hcell)]; exact hcell
      have HU := Lib.hid (hu.call HL.out.below)
      obtain ⟨Au, nu, cu, rfl⟩ := hu.shape
      have HX := Lib.hid (idx_next ls k)
      have IL := Lib.hid (idx_len ls k)
      clear hcell hu
      generalize hlk : ls.getD k default = lk at *
      have HLK := Lib.hid hlk
      clear hlk
      by_cases hr : rgB lk = true
      · have l8 := rg_len hr
        have HR := Lib.hid hr
        have XR := Lib.hid (right16 _ lk wr HU.out)
        rw [hr] at XR
        have XC := Lib.hid (fun W hW => clone21 _ lk W (HU.out.call hW) (by omega))
        clear hr
        go_wp2_with (first
          | (go_at_call 79; refine XR.out.mono ?_; rintro e w2 ⟨rfl, hb2⟩; have B2 := Lib.hid hb2; clear hb2)
          | (go_at_call 80; refine (XC.out _ B2.out).mono ?_; rintro e w3 ⟨u3, rfl, hu3, hb3⟩; have U3 := Lib.hid hu3; have B3 := Lib.hid (B2.out.trans (hb3.mono B2.out.size)); obtain ⟨A9, n9, c9, rfl⟩ := hu3.shape; clear hu3 hb3)
          | (at_builtin; refine wpList_appL (w := w3.alloc (.cells #[.slice A9 n9 c9] 24 (0, 0))) rfl (.tmp 21) (.tmp 24) rfl rfl ((HL.out.call B3.out).alloc (.cells #[.slice A9 n9 c9] 24 (0, 0))) (by have h1 := IL.out; unfold getR; rw [List.length_map]; omega) _ 1 1 [lk] rfl rfl (by omega) (by omega) (fun e => by cases e) (one_src (blk_new w3 (.cells #[.slice A9 n9 c9] 24 (0, 0))) (U3.out.call ((Below.refl _ _).alloc (Nat.le_refl _) _))) ?_; intro v5 w5 h5 hg5; have H5 := Lib.hid h5; have I5 := Lib.hid (((HI.out.call B3.out).alloc (.cells #[.slice A9 n9 c9] 24 (0, 0))).other ((HL.out.call B3.out).alloc (.cells #[.slice A9 n9 c9] 24 (0, 0))) hg5); obtain ⟨A5, n5, c5, rfl⟩ := h5.shape; clear h5 hg5)
          | (at_builtin; refine wpList_appI (w := w5.alloc (.cells #[.int .i64 (k : Int)] 3 (0, 0))) rfl (.tmp 26) (.tmp 28) rfl rfl (I5.out.alloc (.cells #[.int .i64 (k : Int)] 3 (0, 0))) (by have h1 := IL.out; omega) w5.heap.size k rfl (blk_new w5 _) ?_; intro v6 w6 h6 hg6; have H6 := Lib.hid h6; have L6 := Lib.hid ((H5.out.alloc (.cells #[.int .i64 (k : Int)] 3 (0, 0))).other (I5.out.alloc (.cells #[.int .i64 (k : Int)] 3 (0, 0))) hg6); obtain ⟨A6, n6, c6, rfl⟩ := h6.shape; clear h6 hg6))
        go_roundw
        case rel =>
          have hx := HX.out
          rw [if_pos HR.out] at hx
          refine ⟨k + 1, by omega, by go_num, ?_, ?_⟩
          · rw [hx]
            have := L6.out
            unfold getR at this ⊢
            rw [List.map_append, List.map_cons, List.map_nil, HLK.out]
            exact this
          · rw [hx]
            exact H6.out
        case measure => simp [intOf]; omega
      · have hr' : rgB lk = false := by simpa using hr
        have HR := Lib.hid hr
        have XR := Lib.hid (right16 _ lk wr HU.out)
        rw [hr'] at XR
        clear hr hr'
        go_wp2_with (first
          | (go_at_call 79; refine XR.out.mono ?_; rintro e w2 ⟨rfl, hb2⟩; have B2 := Lib.hid hb2; clear hb2))
        go_roundw
        case rel =>
          have hx := HX.out
          rw [if_neg HR.out, List.append_nil] at hx
          refine ⟨k + 1, by omega, by go_num, ?_, ?_⟩
          · rw [hx]
            exact HL.out.call B2.out
          · rw [hx]
            exact HI.out.call B2.out
        case measure => simp [intOf]; omega
    · obtain rfl : k = ls.length := by omega
      have IL := Lib.hid (idx_len ls ls.length)
      have HRG : Hid (∀ i ∈ idxR ls ls.length, rgB (ls.getD i default) = true) := fun i hi => by
        rw [idxR, List.mem_filter] at hi
        exact hi.2
      obtain ⟨N, hN⟩ : ∃ N, N = idxR ls ls.length := ⟨_, rfl⟩
      obtain ⟨R, hR⟩ : ∃ R, R = getR ls N := ⟨_, rfl⟩
      have HNN := Lib.hid hN
      have HRR := Lib.hid hR
      have RR : Hid (∀ l ∈ R, rgB l = true) := by
        intro l hl
        rw [hR, getR, List.mem_map] at hl
        obtain ⟨i, hi, rfl⟩ := hl
        rw [hN] at hi
        exact HRG.out i hi
      have RL : Hid (R.length = N.length) := by show _ = _; rw [hR, getR, List.length_map]
      rw [← hN] at HL HI IL
      rw [← hR] at HL
      clear hN hR HRG hlt
      have nl : N.length ≤ 1000 := by have := IL.out; omega
      obtain ⟨A3', c3', hv3⟩ := box_len HL.out.gss
      simp only [Value.slice.injEq] at hv3
      obtain ⟨rfl, rfl, rfl⟩ := hv3
      rw [RL.out] at HL ⊢
      obtain ⟨wz, hwz⟩ : ∃ wz, wz = wr := ⟨_, rfl⟩
      have T4 := Lib.hid (tr_new wz N.length)
      have B4 := Lib.hid ((Below.refl wz.heap.size wz).alloc (Nat.le_refl _) (.cells #[.int .i64 N.length, .map none, .pointer none, .slice none 0 0, .slice none 0 0, .slice none 0 0] 129 (0, 0)))
      have S4 : Hid ((wz.alloc (.cells #[.int .i64 N.length, .map none, .pointer none, .slice none 0 0, .slice none 0 0, .slice none 0 0] 129 (0, 0))).heap.size = wz.heap.size + 1) := by show _ = _; simp
      rw [← hwz] at HL HI ⊢
      clear hwz
      have XS := Lib.hid (sorted11 _ R (wz.alloc (.cells #[.int .i64 N.length, .map none, .pointer none, .slice none 0 0, .slice none 0 0, .slice none 0 0] 129 (0, 0))) (HL.out.gss.call B4.out) (by rw [RL.out]; exact nl) (fun l hl => by have := rg_len (RR.out l hl); omega))
      go_wp2_with (first | (go_at_call 81; refine XS.out.mono ?_; rintro e w5 ⟨u5, ps, rfl, hn5, hp5, hb5, hf5⟩; have N5 := Lib.hid hn5; have P5 := Lib.hid hp5; have B5 := Lib.hid hb5; have F5 := Lib.hid hf5; obtain ⟨A5, c5, rfl⟩ := ni_len hn5; clear hn5 hp5 hb5 hf5))
      have PL : Hid (ps.length = N.length) := by show _ = _; rw [P5.out.len, RL.out]
      have pl12 : ps.length ≤ 1000 := by rw [PL.out]; exact nl
      clear XS
      go_loopw [38] (fun i wr => ∃ k : Nat, k ≤ ps.length ∧ i = .int .i64 k ∧ NewMid R N ps wz w5 k wr) (fun i _ => ps.length - (intOf i).toNat)
      case atStart =>
        refine ⟨0, Nat.zero_le _, rfl, [], _, _, (T4.out.call B5.out).mono (Nat.zero_le _), rfl, rfl, Nat.le_refl _, fun g hg hne => ⟨?_, rfl⟩⟩
        exact upd_other _ _ _ hne
      case round =>
        obtain ⟨k, hk, rfl, es, nd9, ro9, htr, hes, hel, hsz, hkp⟩ := hrel
        have TR := Lib.hid htr
        have HES := Lib.hid hes
        have HSZ := Lib.hid hsz
        have HKP := Lib.hid hkp
        clear htr hes hsz hkp
        by_cases hlt : k < ps.length
        · have d0 : (k : Int) < (ps.length : Int) := by omega
          have hpp := pl_lt P5.out hlt
          have TN := Lib.hid (take_nat (f := fun p => (N.getD p 0, R.getD p default)) ps k hlt)
          obtain ⟨A5', cap5', e5, _, _, hc5⟩ := N5.out
          simp only [Value.slice.injEq] at e5
          obtain ⟨rfl, -, rfl⟩ := e5
          obtain ⟨sb, so, rfl, hs5⟩ := hc5 k hlt
          have hsb : wz.heap.size < sb := by
            have h1 := F5.out sb so _ _ rfl
            have h2 := S4.out
            omega
          have y0 : wr.cell? ⟨sb, so + k, none⟩ = some (.int .i64 (ps.getD k 0 : Nat)) := by
            rw [World.cell?_of_block (w := w5) (HKP.out sb (World.block_lt_of_cell? _ _ hs5) (by omega)).2]
            exact hs5
          clear hs5 hc5
          obtain ⟨p, hp⟩ : ∃ p, p = ps.getD k 0 := ⟨_, rfl⟩
          rw [← hp] at y0 hpp TN
          clear hp
          rw [RL.out] at hpp
          have d1 : (p : Int) < (N.length : Int) := by omega
          obtain ⟨A4', cap4', e4, _, _, hc4⟩ := HI.out.ni
          simp only [Value.slice.injEq] at e4
          obtain ⟨rfl, rfl, rfl⟩ := e4
          obtain ⟨nb, no, rfl, hn4⟩ := hc4 p hpp
          obtain ⟨A6', cap6', e6, _, _, hc6⟩ := HL.out.gts
          simp only [Value.slice.injEq] at e6
          obtain ⟨rfl, -, rfl⟩ := e6
          obtain ⟨rb, ro1, up, rfl, hr6, hup⟩ := hc6 p (by rw [RL.out]; exact hpp)
          have B1 := Lib.hid (World.block_lt_of_cell? _ _ hn4)
          have B2 := Lib.hid (World.block_lt_of_cell? _ _ hr6)
          have x1 : wr.cell? ⟨nb, no + p, none⟩ = some (.int .i64 (N.getD p 0 : Nat)) := by rw [TR.out.below.cell (World.block_lt_of_cell? _ _ hn4)]; exact hn4
          have x2 : wr.cell? ⟨rb, ro1 + p, none⟩ = some up := by rw [TR.out.below.cell (World.block_lt_of_cell? _ _ hr6)]; exact hr6
          have HRP := Lib.hid (RR.out _ (getD_mem R p (by rw [RL.out]; exact hpp)))
          have HG := Lib.hid hup.1
          clear hn4 hr6 hc4 hc6 hup
          obtain ⟨lp, hlp⟩ : ∃ lp, lp = R.getD p default := ⟨_, rfl⟩
          obtain ⟨Np, hNp⟩ : ∃ Np, Np = N.getD p 0 := ⟨_, rfl⟩
          rw [← hlp] at HRP HG TN
          rw [← hNp] at x1 TN
          clear hlp hNp
          obtain ⟨Ap, cp, rfl⟩ : ∃ Ap cp, up = .slice Ap lp.length cp := by
            obtain ⟨Ap, cp, e, _⟩ := HG.out
            exact ⟨Ap, cp, e⟩
          have l8 := rg_len HRP.out
          have XA := Lib.hid (add23 (TR.out.call ((Below.refl _ _).drew)) Ap cp Np lp HG.out (tx_size HRP.out) (by omega) (by omega) (by omega) (Nat.le_refl _))
          go_wp2_with fail
          have hS0 : (fun W : World => W.cell? ⟨nb, no + p, none⟩ = some (.int .i64 (Np : Nat)) ∧ W.cell? ⟨rb, ro1 + p, none⟩ = some (.slice Ap lp.length cp)) wr.drew := ⟨x1, x2⟩
          refine wp_region_sink (S := (fun W : World => W.cell? ⟨nb, no + p, none⟩ = some (.int .i64 (Np : Nat)) ∧ W.cell? ⟨rb, ro1 + p, none⟩ = some (.slice Ap lp.length cp))) (n := 1000) (by kernel_rfl) ?_
          change wpSink _ _ _ _ _ 1000 13 _ _ _
          refine sink_take1 (i := 0) (d := some 42) (v := ?_) rfl rfl (by kernel_rfl) (by decide) (by kernel_rfl) (by kernel_rfl) (fun _ _ _ h => h) (Or.inl ⟨by rfl, ?_⟩) hS0 ?_
          rotate_left
          · intro wz hSw
            (try dsimp only at hSw)
            obtain ⟨g1, g2⟩ := hSw
            go_simp
            (try with_reducible rfl)
          try simp only [Act.put, List.setIfInBounds_toArray, List.set_cons_zero, List.set_cons_succ]
          refine sink_take1 (i := 1) (d := some 43) (v := ?_) rfl rfl (by kernel_rfl) (by decide) (by kernel_rfl) (by kernel_rfl) (fun _ _ _ h => h) (Or.inl ⟨by rfl, ?_⟩) hS0 ?_
          rotate_left
          · intro wz hSw
            (try dsimp only at hSw)
            obtain ⟨g1, g2⟩ := hSw
            go_simp
            (try with_reducible rfl)
          try simp only [Act.put, List.setIfInBounds_toArray, List.set_cons_zero, List.set_cons_succ]
          refine sink_take1 (i := 2) (d := some 44) (v := ?_) rfl rfl (by kernel_rfl) (by decide) (by kernel_rfl) (by kernel_rfl) (fun _ _ _ h => h) (Or.inl ⟨by rfl, ?_⟩) hS0 ?_
          rotate_left
          · intro wz hSw
            (try dsimp only at hSw)
            obtain ⟨g1, g2⟩ := hSw
            go_simp
            (try with_reducible rfl)
          try simp only [Act.put, List.setIfInBounds_toArray, List.set_cons_zero, List.set_cons_succ]
          refine sink_take1 (i := 3) (d := some 45) (v := ?_) rfl rfl (by kernel_rfl) (by decide) (by kernel_rfl) (by kernel_rfl) (fun _ _ _ h => h) (Or.inl ⟨by rfl, ?_⟩) hS0 ?_
          rotate_left
          · intro wz hSw
            (try dsimp only at hSw)
            obtain ⟨g1, g2⟩ := hSw
            go_simp
            (try with_reducible rfl)
          try simp only [Act.put, List.setIfInBounds_toArray, List.set_cons_zero, List.set_cons_succ]
          refine sink_take1 (i := 4) (d := some 46) (v := ?_) rfl rfl (by kernel_rfl) (by decide) (by kernel_rfl) (by kernel_rfl) (fun _ _ _ h => h) (Or.inl ⟨by rfl, ?_⟩) hS0 ?_
          rotate_left
          · intro wz hSw
            (try dsimp only at hSw)
            obtain ⟨g1, g2⟩ := hSw
            go_simp
            (try with_reducible rfl)
          try simp only [Act.put, List.setIfInBounds_toArray, List.set_cons_zero, List.set_cons_succ]
          refine sink_take1 (i := 5) (d := some 47) (v := ?_) rfl rfl (by kernel_rfl) (by decide) (by kernel_rfl) (by kernel_rfl) (fun _ _ _ h => h) (Or.inl ⟨by rfl, ?_⟩) hS0 ?_
          rotate_left
          · intro wz hSw
            (try dsimp only at hSw)
            obtain ⟨g1, g2⟩ := hSw
            go_simp
            (try with_reducible rfl)
          try simp only [Act.put, List.setIfInBounds_toArray, List.set_cons_zero, List.set_cons_succ]
          refine sink_take1 (i := 6) (d := some 48) (v := ?_) rfl rfl (by kernel_rfl) (by decide) (by kernel_rfl) (by kernel_rfl) (fun _ _ _ h => h) (Or.inl ⟨by rfl, ?_⟩) hS0 ?_
          rotate_left
          · intro wz hSw
            (try dsimp only at hSw)
            obtain ⟨g1, g2⟩ := hSw
            go_simp
            (try with_reducible rfl)
          try simp only [Act.put, List.setIfInBounds_toArray, List.set_cons_zero, List.set_cons_succ]
          refine sink_take1 (i := 7) (d := some 49) (v := ?_) rfl rfl (by kernel_rfl) (by decide) (by kernel_rfl) (by kernel_rfl) (fun _ _ _ h => h) (Or.inl ⟨by rfl, ?_⟩) hS0 ?_
          rotate_left
          · intro wz hSw
            (try dsimp only at hSw)
            obtain ⟨g1, g2⟩ := hSw
            go_simp
            (try with_reducible rfl)
          try simp only [Act.put, List.setIfInBounds_toArray, List.set_cons_zero, List.set_cons_succ]
          refine sink_take1 (i := 8) (d := some 50) (v := ?_) rfl rfl (by kernel_rfl) (by decide) (by kernel_rfl) (by kernel_rfl) (fun _ _ _ h => h) (Or.inl ⟨by rfl, ?_⟩) hS0 ?_
          rotate_left
          · intro wz hSw
            (try dsimp only at hSw)
            obtain ⟨g1, g2⟩ := hSw
            go_simp
            (try with_reducible rfl)
          try simp only [Act.put, List.setIfInBounds_toArray, List.set_cons_zero, List.set_cons_succ]
          refine sink_take1 (i := 9) (d := some 51) (v := ?_) rfl rfl (by kernel_rfl) (by decide) (by kernel_rfl) (by kernel_rfl) (fun _ _ _ h => h) (Or.inl ⟨by rfl, ?_⟩) hS0 ?_
          rotate_left
          · intro wz hSw
            (try dsimp only at hSw)
            obtain ⟨g1, g2⟩ := hSw
            go_simp
            (try with_reducible rfl)
          try simp only [Act.put, List.setIfInBounds_toArray, List.set_cons_zero, List.set_cons_succ]
          refine sink_take1 (i := 10) (d := some 52) (v := ?_) rfl rfl (by kernel_rfl) (by decide) (by kernel_rfl) (by kernel_rfl) (fun _ _ _ h => h) (Or.inl ⟨by rfl, ?_⟩) hS0 ?_
          rotate_left
          · intro wz hSw
            (try dsimp only at hSw)
            obtain ⟨g1, g2⟩ := hSw
            go_simp
            (try with_reducible rfl)
          try simp only [Act.put, List.setIfInBounds_toArray, List.set_cons_zero, List.set_cons_succ]
          refine sink_take1 (i := 11) (d := some 53) (v := ?_) rfl rfl (by kernel_rfl) (by decide) (by kernel_rfl) (by kernel_rfl) (fun _ _ _ h => h) (Or.inl ⟨by rfl, ?_⟩) hS0 ?_
          rotate_left
          · intro wz hSw
            (try dsimp only at hSw)
            obtain ⟨g1, g2⟩ := hSw
            go_simp
            (try with_reducible rfl)
          try simp only [Act.put, List.setIfInBounds_toArray, List.set_cons_zero, List.set_cons_succ]
          refine sink_one (i := 12) (by kernel_rfl) ?_
          refine wpOp_step rfl (fun K' hK => ?_)
          have HKK := Lib.hid hK
          clear hK
          rw [if_pos (by rfl)]
          go_simp
          refine XA.out.mono ?_
          rintro e w9 ⟨rfl, nd', ro', ht', hs', hk'⟩
          have T9 := Lib.hid ht'
          have S9 := Lib.hid hs'
          have K9 := Lib.hid hk'
          have hS9 : (fun W : World => W.cell? ⟨nb, no + p, none⟩ = some (.int .i64 (Np : Nat)) ∧ W.cell? ⟨rb, ro1 + p, none⟩ = some (.slice Ap lp.length cp)) w9 := ⟨by rw [T9.out.below.cell B1.out, ← TR.out.below.cell B1.out]; exact x1, by rw [T9.out.below.cell B2.out, ← TR.out.below.cell B2.out]; exact x2⟩
          clear ht' hs' hk'
          refine HKK.out _ _ ⟨Or.inr hS9, ?_⟩
          clear HKK
          try simp only [Act.put, List.setIfInBounds_toArray, List.set_cons_zero, List.set_cons_succ]
          refine sink_done (by kernel_rfl) ?_
          go_wp2_with fail
          go_roundw
          case rel =>
            refine ⟨k + 1, by omega, by go_num, es ++ [⟨Np, .slice Ap lp.length cp, lp⟩], nd', ro', T9.out.mono (by omega), ?_, by simp; omega, ?_, fun g hg hne => ?_⟩
            · rw [List.map_append, HES.out, TN.out]
              rfl
            · have h1 := S9.out
              have h2 := HSZ.out
              exact Nat.le_trans h2 h1
            · obtain ⟨r1, r2⟩ := HKP.out g hg hne
              obtain ⟨r3, r4⟩ := K9.out g (Nat.lt_of_lt_of_le hg HSZ.out) r1
              exact ⟨r3, r4.trans r2⟩
          case measure => simp [intOf]; omega
        · obtain rfl : k = ps.length := by omega
          go_wp2_with fail
          go_ret
          refine ⟨wz.heap.size, wz.heap.size, wz, es, nd9, ro9, ps.length * 8, ps, rfl, ?_, Nat.le_refl _, ?_, ?_, ?_⟩
          · rw [← HNN.out]
            exact TR.out
          · exact HL.out.below.trans (TR.out.below.mono HL.out.size)
          · rw [← HNN.out, ← HRR.out]
            exact P5.out
          · have := HES.out
            rw [List.take_length] at this
            rw [← HNN.out, ← HRR.out]
            exact this
end Go.Proofs.YthigandmemifoaaGreatDoor
