/-
  Put together: Kid.
-/
import Derived.Test.YthigandmemifoaaGreatDoorP17
import Derived.Test.YthigandmemifoaaGreatDoorP07
import Derived.Deep.QuietTactic
import Derived.Deep.CutBlock
import Derived.Deep.DeepCutAuto
namespace Go.Proofs.YthigandmemifoaaGreatDoor
open Go.RowKit Go.PlainAid
set_option maxRecDepth 100000

/-- what a segment is in a node's key -/
def kkO (k : Int) (t : ByteArray) : Option ByteArray := if k = 1 then none else some t
/-- what kid comes to -/
def KidPost (B : Nat) (w0 : World) (T cnt : Nat) (es : List En) (nd : Key → Option Nat) (ro : Nat → Option (Key × Nat)) (w : World) (c : Nat) (q : Key) (e : Ending) (w' : World) : Prop :=
  ∃ N nd' ro', e = .returned (.pointer (some ⟨N, 0, none⟩)) ∧ Tr B w0 T cnt es nd' ro' c w' ∧ nd' q = some N ∧ (∀ k d, nd k = some d → nd' k = some d) ∧ w.heap.size ≤ w'.heap.size ∧ ∀ g, g < w.heap.size → ro g = none → ro' g = none ∧ w'.heap[g]? = w.heap[g]?
section
variable {w w0 : World} {B T cnt : Nat} {es : List En} {nd : Key → Option Nat} {ro : Nat → Option (Key × Nat)} {c : Nat} {key : Key} {b : Nat}
theorem Tr.alloc (h : Tr B w0 T cnt es nd ro c w) (o : Obj) : Tr B w0 T cnt es nd ro c (w.alloc o) := h.call ((Below.refl _ _).alloc (Nat.le_refl _) o)
theorem Tr.mono (h : Tr B w0 T cnt es nd ro c w) {c' : Nat} (hc : c ≤ c') : Tr B w0 T cnt es nd ro c' w where
  node key b hk := (h.node key b hk).frame (fun _ _ _ => rfl) (fun _ => rfl) (fun _ _ h => h) (fun _ => rfl) hc
  fresh := h.fresh
  root := h.root
  clos := h.clos
  cov := h.cov
  below := h.below
  size := h.size
  ent := h.ent
/-- a node's cells -/
theorem Tr.cells (h : Tr B w0 T cnt es nd ro c w) (hk : nd key = some b) : ∃ m va vb vc, (w.cell? ⟨b, (preK cnt key).length, none⟩ = some (.map m) ∧ w.cell? ⟨b, (preK cnt key).length + 1, none⟩ = some (pOf (nd (key ++ [none]))) ∧ w.cell? ⟨b, (preK cnt key).length + 2, none⟩ = some va ∧ w.cell? ⟨b, (preK cnt key).length + 3, none⟩ = some vb ∧ w.cell? ⟨b, (preK cnt key).length + 4, none⟩ = some vc)
    ∧ (∀ j, w.frozen? ⟨b, j, none⟩ = false) ∧ MapK w nd ro c key m ∧ Row w B es ro key 2 va ∧ Row w B es ro key 3 vb ∧ Row w B es ro key 4 vc ∧ b < w.heap.size := by
  obtain ⟨m, va, vb, vc, ty, h1, h2, h3, h4, h5, h6⟩ := h.node _ _ hk
  have g := ndC_get cnt key (.map m) (pOf (nd (key ++ [none]))) va vb vc
  refine ⟨m, va, vb, vc, ⟨?_, ?_, ?_, ?_, ?_⟩, fun j => blk_frozen h1 j, h3, h4, h5, h6, (h.fresh _ _ h2).2⟩
  · rw [blk_cell h1]; exact g.1
  · rw [blk_cell h1]; exact g.2.1
  · rw [blk_cell h1]; exact g.2.2.1
  · rw [blk_cell h1]; exact g.2.2.2.1
  · rw [blk_cell h1]; exact g.2.2.2.2

theorem blk2nd {W : World} {b : Nat} (h : b < W.heap.size) (o : Obj) (j : Nat) : (W.alloc o).cell? ⟨b, j, none⟩ = W.cell? ⟨b, j, none⟩ ∧ (W.alloc o).frozen? ⟨b, j, none⟩ = W.frozen? ⟨b, j, none⟩ :=
  ⟨World.cell?_of_block (w := W) (Below.heap_alloc _ _ _ h), World.frozen?_of_block (w := W) (Below.heap_alloc _ _ _ h)⟩
set_option maxHeartbeats 1600000 in
theorem kidP (h : Tr B w0 T cnt es nd ro c w) (hk : nd key = some b) (t : ByteArray) :
    Calls Tryz.prog 99 #[.pointer (some ⟨b, (preK cnt key).length, none⟩), .agg #[.int .i64 1, .string t]] w (KidPost B w0 T cnt es nd ro w c (key ++ [none])) := by
  have h1 := h.alloc (.cells #[.int .i64 1, .string t] 28 (0, 0))
  have H1 := Lib.hid h1
  have HRB : Hid (ro b = some (key, 0)) := by
    obtain ⟨_, _, _, _, _, _, hr, _⟩ := h.node _ _ hk
    exact hr
  obtain ⟨m, va, vb, vc, ⟨c0, c1, -, -, -⟩, hf, -, -, -, -, hbl⟩ := h1.cells hk
  have f1 := hf ((preK cnt key).length + 1)
  have s0 : (w.alloc (.cells #[.int .i64 1, .string t] 28 (0, 0))).cell? ⟨w.heap.size, 0, none⟩ = some (.int .i64 1) := by rw [blk_cell (blk_new _ _)]; rfl
  clear hf c0 h1
  rcases hn : nd (key ++ [none]) with _ | N
  · have HP := Lib.hid (H1.out.param hk hn)
    have HN := Lib.hid hn
    rw [hn] at c1
    have c1' : (w.alloc (.cells #[.int .i64 1, .string t] 28 (0, 0))).cell? ⟨b, (preK cnt key).length + 1, none⟩ = some (.pointer none) := c1
    clear c1 hn h
    have e2 := blk2nd hbl (.cells #[.map none, .pointer none, .slice none 0 0, .slice none 0 0, .slice none 0 0] 127 (0, 0)) ((preK cnt key).length + 1)
    have c2 := e2.1.trans c1'
    have f2 := e2.2.trans f1
    clear e2
    generalize (preK cnt key).length = o at *
    go_enter Tryz.func99, Tryz.ntmps99
    go_wp2
    go_ret
    have hp := HP.out
    have hsz : (w.alloc (.cells #[.int .i64 1, .string t] 28 (0, 0))).heap.size = w.heap.size + 1 := by simp
    rw [hsz] at hp
    refine ⟨_, _, _, rfl, hp, upd_same _ _ _, fun k d hkd => ?_, by simp [World.setCell]; omega, fun g hg hr => ⟨?_, ?_⟩⟩
    · rw [upd_other _ _ _ (by intro e; rw [e, HN.out] at hkd; cases hkd)]
      exact hkd
    · rw [upd_other _ _ _ (by omega)]
      exact hr
    · exact (Below.heap_setCell _ _ _ _ (by intro e; have e : g = b := e; rw [e, HRB.out] at hr; cases hr)).trans ((Below.heap_alloc _ _ _ (by simp; omega)).trans (Below.heap_alloc _ _ _ hg))
  · rw [hn] at c1
    have c1' : (w.alloc (.cells #[.int .i64 1, .string t] 28 (0, 0))).cell? ⟨b, (preK cnt key).length + 1, none⟩ = some (.pointer (some ⟨N, 0, none⟩)) := c1
    have HN := Lib.hid hn
    clear c1 hn h
    generalize (preK cnt key).length = o at *
    go_enter Tryz.func99, Tryz.ntmps99
    go_wp2
    go_ret
    exact ⟨N, nd, ro, rfl, H1.out, HN.out, fun _ _ h => h, by simp, fun g hg hr => ⟨hr, Below.heap_alloc _ _ _ hg⟩⟩

/-- what stands behind the map's making -/
def MapMid (B : Nat) (w0 : World) (T cnt : Nat) (es : List En) (nd : Key → Option Nat) (ro0 : Nat → Option (Key × Nat)) (w : World) (c : Nat) (key : Key) (b sb : Nat) (k : Int) (t : ByteArray) (W : World) : Prop :=
  ∃ ro mb, Tr B w0 T cnt es nd ro c W ∧ sb < W.heap.size ∧ (∀ g, g < sb → ro0 g = none → ro g = none ∧ W.heap[g]? = w.heap[g]?) ∧ W.cell? ⟨b, (preK cnt key).length, none⟩ = some (.map (some mb)) ∧ MapN W mb c (fun t => nd (key ++ [some t])) ∧ W.heap[sb]? = some (.cells #[.int .i64 k, .string t] 28 (0, 0))
set_option maxHeartbeats 3200000 in
theorem kidS (h : Tr B w0 T cnt es nd ro c w) (hk : nd key = some b) (k : Int) (hk1 : k ≠ 1) (t : ByteArray) (ht : t.size ≤ maxLen) (hc : c < maxLen) :
    Calls Tryz.prog 99 #[.pointer (some ⟨b, (preK cnt key).length, none⟩), .agg #[.int .i64 k, .string t]] w (KidPost B w0 T cnt es nd ro w (c + 1) (key ++ [some t])) := by
  have h1 := h.alloc (.cells #[.int .i64 k, .string t] 28 (0, 0))
  have H1 := Lib.hid h1
  obtain ⟨m, va, vb, vc, ⟨c0, -, -, -, -⟩, hf, hM, -, -, -, hbl⟩ := h1.cells hk
  have f0 := hf (preK cnt key).length
  have HS := Lib.hid (blk_new w (.cells #[.int .i64 k, .string t] 28 (0, 0)))
  have HL : Hid (w.heap.size < (w.alloc (.cells #[.int .i64 k, .string t] 28 (0, 0))).heap.size) := by show _ < _; simp
  have HBL := Lib.hid hbl
  have HBN : Hid (b ≠ w.heap.size) := by
    obtain ⟨_, _, _, _, _, _, hr, _⟩ := h.node _ _ hk
    have := (h.fresh _ _ hr).2
    show b ≠ _
    omega
  have HRB : Hid (ro b = some (key, 0)) := by
    obtain ⟨_, _, _, _, _, _, hr, _⟩ := h.node _ _ hk
    exact hr
  have HKP : Hid (∀ g, g < w.heap.size → (w.alloc (.cells #[.int .i64 k, .string t] 28 (0, 0))).heap[g]? = w.heap[g]?) := fun g hg => Below.heap_alloc _ _ _ hg
  have HSZ : Hid (w.heap.size = w.heap.size) := rfl
  have s0 : (w.alloc (.cells #[.int .i64 k, .string t] 28 (0, 0))).cell? ⟨w.heap.size, 0, none⟩ = some (.int .i64 k) := by rw [blk_cell HS.out]; rfl
  have q1 : (k == 1) = false := by simpa using hk1
  clear hf h1 h hbl hk1
  obtain ⟨o, ho⟩ : ∃ o, o = (preK cnt key).length := ⟨_, rfl⟩
  have HO := Lib.hid ho
  rw [← ho] at c0 f0 ⊢
  clear ho
  have HK := Lib.hid hk
  have HM := Lib.hid hM
  have HT := Lib.hid ht
  have HC := Lib.hid hc
  clear hk hM ht hc
  have hmm := @run_makeMap Tryz.prog
  have qm : ∀ W : World, (binOp BinOp.eql 123 (.map m) (.map none)).run Tryz.prog W = .ok (.bool m.isNone) W := by
    intro W
    cases m <;> kernel_rfl
  go_enter Tryz.func99, Tryz.ntmps99
  go_upto_if 26 with fail
  generalize w.alloc (.cells #[.int .i64 k, .string t] 28) = w1 at *
  generalize hsb : w.heap.size = sb at *
  have HSB := Lib.hid hsb
  clear HSZ hsb
  go_cut [] from 22 (fun wz => MapMid B w0 T cnt es nd ro w c key b sb k t wz)
  case first =>
    clear qm
    rcases m with _ | mb
    · have e2 := blk2nd HBL.out (.map #[] 0) o
      have c2 := e2.1.trans c0
      have f2 := e2.2.trans f0
      clear e2
      go_wp2_with fail
      go_meet
      have htr := H1.out.mapNew HK.out (by rw [← HO.out]; exact c0)
      obtain ⟨m', va', vb', vc', ty', n1, n2, -⟩ := H1.out.node _ _ HK.out
      have hcell : ((w1.alloc (.map #[] 0)).setCell ⟨b, (preK cnt key).length, none⟩ (.map (some w1.heap.size))).cell? ⟨b, (preK cnt key).length, none⟩ = some (.map (some w1.heap.size)) := by
        rw [blk_cell (blk_setCell (blk_alloc n1 _) _ _), (ndC_set _ _ _ _ _ _ _ _).1]
        exact (ndC_get _ _ _ _ _ _ _).1
      obtain ⟨m2, _, _, _, ⟨c2', -⟩, -, hM2, -⟩ := htr.cells HK.out
      rw [hcell] at c2'
      cases c2'
      rw [HO.out]
      refine ⟨_, w1.heap.size, htr, by have := HL.out; simp [World.setCell]; omega, fun g hg hr => ⟨?_, ?_⟩, hcell, hM2.2, ?_⟩
      · have := HL.out
        rw [upd_other _ _ _ (by omega)]
        exact hr
      · have := HL.out
        exact (Below.heap_setCell _ _ _ _ (by intro e; have e : g = b := e; rw [e, HRB.out] at hr; cases hr)).trans ((Below.heap_alloc _ _ _ (by omega)).trans (HKP.out g hg))
      exact blk_setCell_other (blk_alloc HS.out _) (fun e => HBN.out e.symm) _
    · go_wp2_with fail
      go_meet
      exact ⟨_, mb, H1.out, HL.out, fun g hg hr => ⟨hr, HKP.out g hg⟩, by rw [← HO.out]; exact c0, HM.out.2, HS.out⟩
  clear qm hmm H1 HS HL HBL HBN s0 f0 c0 HM q1 HKP
  obtain ⟨ro2, mb, tr, hslt, hkp, cm, mn, hsg⟩ := hcut
  have SLT := Lib.hid hslt
  have KP := Lib.hid hkp
  clear hslt hkp
  rw [← HO.out] at cm
  have LK := Lib.hid (fun (W : World) (hW : W.heap[mb]? = wc.heap[mb]?) => (mn.frame hW (Nat.le_refl _)).look t HT.out)
  have s1 : wc.cell? ⟨sb, 1, none⟩ = some (.string t) := by rw [blk_cell hsg]; rfl
  have HSG := Lib.hid hsg
  have TR := Lib.hid tr
  have MN := Lib.hid mn
  clear tr mn hsg
  rcases hn : nd (key ++ [some t]) with _ | N
  · have HN := Lib.hid hn
    rw [hn] at LK
    have LK2 : Hid (∀ W : World, W.heap[mb]? = wc.heap[mb]? → (Instr.lookup 123 (.map (some mb)) (.string t) false).run Tryz.prog W = .ok (.pointer none) W) := LK.out
    clear hn LK
    go_wp2_with fail
    have hS0 : (fun W : World => W.cell? ⟨b, o, none⟩ = some (.map (some mb)) ∧ W.cell? ⟨sb, 1, none⟩ = some (.string t) ∧ (Instr.lookup 123 (.map (some mb)) (.string t) false).run Tryz.prog W = .ok (.pointer none) W) wc.drew := ⟨cm, s1, LK2.out _ rfl⟩
    refine wp_region_sink (S := (fun W : World => W.cell? ⟨b, o, none⟩ = some (.map (some mb)) ∧ W.cell? ⟨sb, 1, none⟩ = some (.string t) ∧ (Instr.lookup 123 (.map (some mb)) (.string t) false).run Tryz.prog W = .ok (.pointer none) W)) (n := 1000) (by kernel_rfl) ?_
    change wpSink _ _ _ _ _ 1000 8 _ _ _
    refine sink_take1 (i := 0) (d := some 31) (v := ?_) rfl rfl (by kernel_rfl) (by decide) (by kernel_rfl) (by kernel_rfl) (fun _ _ _ h => h) (Or.inl ⟨by rfl, ?_⟩) hS0 ?_
    rotate_left
    · intro wz hSw
      (try dsimp only at hSw)
      obtain ⟨g1, g2, g3⟩ := hSw
      go_simp
      (try with_reducible rfl)
    try simp only [Act.put, List.setIfInBounds_toArray, List.set_cons_zero, List.set_cons_succ]
    refine sink_take1 (i := 1) (d := some 32) (v := ?_) rfl rfl (by kernel_rfl) (by decide) (by kernel_rfl) (by kernel_rfl) (fun _ _ _ h => h) (Or.inl ⟨by rfl, ?_⟩) hS0 ?_
    rotate_left
    · intro wz hSw
      (try dsimp only at hSw)
      obtain ⟨g1, g2, g3⟩ := hSw
      go_simp
      (try with_reducible rfl)
    try simp only [Act.put, List.setIfInBounds_toArray, List.set_cons_zero, List.set_cons_succ]
    refine sink_take1 (i := 2) (d := some 33) (v := ?_) rfl rfl (by kernel_rfl) (by decide) (by kernel_rfl) (by kernel_rfl) (fun _ _ _ h => h) (Or.inl ⟨by rfl, ?_⟩) hS0 ?_
    rotate_left
    · intro wz hSw
      (try dsimp only at hSw)
      obtain ⟨g1, g2, g3⟩ := hSw
      go_simp
      (try with_reducible rfl)
    try simp only [Act.put, List.setIfInBounds_toArray, List.set_cons_zero, List.set_cons_succ]
    refine sink_take1 (i := 3) (d := some 34) (v := ?_) rfl rfl (by kernel_rfl) (by decide) (by kernel_rfl) (by kernel_rfl) (fun _ _ _ h => h) (Or.inl ⟨by rfl, ?_⟩) hS0 ?_
    rotate_left
    · intro wz hSw
      (try dsimp only at hSw)
      obtain ⟨g1, g2, g3⟩ := hSw
      go_simp
      (try with_reducible rfl)
    try simp only [Act.put, List.setIfInBounds_toArray, List.set_cons_zero, List.set_cons_succ]
    refine sink_take1 (i := 4) (d := some 35) (v := ?_) rfl rfl (by kernel_rfl) (by decide) (by kernel_rfl) (by kernel_rfl) (fun _ _ _ h => h) (Or.inl ⟨by rfl, ?_⟩) hS0 ?_
    rotate_left
    · intro wz hSw
      (try dsimp only at hSw)
      obtain ⟨g1, g2, g3⟩ := hSw
      go_simp
      (try with_reducible rfl)
    try simp only [Act.put, List.setIfInBounds_toArray, List.set_cons_zero, List.set_cons_succ]
    refine sink_take1 (i := 5) (d := some 36) (v := ?_) rfl rfl (by kernel_rfl) (by decide) (by kernel_rfl) (by kernel_rfl) (fun _ _ _ h => h) (Or.inl ⟨by rfl, ?_⟩) hS0 ?_
    rotate_left
    · intro wz hSw
      (try dsimp only at hSw)
      obtain ⟨g1, g2, g3⟩ := hSw
      go_simp
      (try with_reducible rfl)
    try simp only [Act.put, List.setIfInBounds_toArray, List.set_cons_zero, List.set_cons_succ]
    refine sink_take1 (i := 6) (d := some 37) (v := ?_) rfl rfl (by kernel_rfl) (by decide) (by kernel_rfl) (by kernel_rfl) (fun _ _ _ h => h) (Or.inl ⟨by rfl, ?_⟩) hS0 ?_
    rotate_left
    · intro wz hSw
      (try dsimp only at hSw)
      obtain ⟨g1, g2, g3⟩ := hSw
      go_simp
      (try with_reducible rfl)
    try simp only [Act.put, List.setIfInBounds_toArray, List.set_cons_zero, List.set_cons_succ]
    refine sink_take1 (i := 7) (d := some 38) (v := ?_) rfl rfl (by kernel_rfl) (by decide) (by kernel_rfl) (by kernel_rfl) (fun _ _ _ h => h) (Or.inl ⟨by rfl, ?_⟩) hS0 ?_
    rotate_left
    · intro wz hSw
      (try dsimp only at hSw)
      obtain ⟨g1, g2, g3⟩ := hSw
      go_simp
      (try with_reducible rfl)
    try simp only [Act.put, List.setIfInBounds_toArray, List.set_cons_zero, List.set_cons_succ]
    refine sink_done (by kernel_rfl) ?_
    go_wp2_with fail
    obtain ⟨w8, hr8, ht8, hg8⟩ := (TR.out.call ((Below.refl _ _).drew.drew)).static HK.out HN.out HT.out HC.out (by rw [← HO.out]; exact cm)
    have HT8 := Lib.hid ht8
    have hbl := World.block_lt_of_cell? _ _ cm
    have hsl := blk_lt HSG.out
    obtain ⟨Dm, ⟨esm, ckm, hmk, -⟩, -⟩ := MN.out
    have hbm : b ≠ mb := by
      intro e
      subst e
      obtain ⟨_, _, _, _, _, n1, _⟩ := TR.out.node _ _ HK.out
      rw [hmk] at n1
      cases n1
    have hsm : sb ≠ mb := by
      intro e
      subst e
      have := HSG.out
      rw [hmk] at this
      cases this
    have k8 : ∀ g, g < wc.heap.size → g ≠ mb → w8.heap[g]? = wc.heap[g]? := fun g hg hne => (hg8.block g (by show g < _; simp; omega) (by simpa using hne)).trans (Below.heap_alloc _ _ _ hg)
    have cm8 : w8.cell? ⟨b, o, none⟩ = some (.map (some mb)) := by rw [World.cell?_of_block (w := wc) (k8 b hbl hbm)]; exact cm
    have s18 : w8.cell? ⟨sb, 1, none⟩ = some (.string t) := by rw [World.cell?_of_block (w := wc) (k8 sb hsl hsm)]; exact s1
    have cm7 : (wc.drew.drew.alloc (.cells newC 127 (0, 0))).cell? ⟨b, o, none⟩ = some (.map (some mb)) := by rw [World.cell?_of_block (w := wc) (Below.heap_alloc wc.drew.drew _ b hbl)]; exact cm
    have s17 : (wc.drew.drew.alloc (.cells newC 127 (0, 0))).cell? ⟨sb, 1, none⟩ = some (.string t) := by rw [World.cell?_of_block (w := wc) (Below.heap_alloc wc.drew.drew _ sb hsl)]; exact s1
    have LK8 : Hid (∀ W : World, W.heap[mb]? = w8.heap[mb]? → (Instr.lookup 123 (.map (some mb)) (.string t) false).run Tryz.prog W = .ok (.pointer (some ⟨wc.heap.size, 0, none⟩)) W) := by
      intro W hW
      obtain ⟨m2, _, _, _, ⟨c2', -⟩, -, hM2, -⟩ := ht8.cells (key := key) (b := b) (by rw [upd_other _ _ _ (snoc_ne _ _)]; exact HK.out)
      rw [← HO.out, cm8] at c2'
      cases c2'
      have := (hM2.2.frame hW (Nat.le_refl _)).look t HT.out
      rw [upd_same] at this
      exact this
    have K8 := Lib.hid k8
    have S8 : Hid (wc.heap.size ≤ w8.heap.size) := by have h1 := hg8.size; simp at h1; show _ ≤ _; omega
    have HMB : Hid (ro2 mb = some (key, 1)) := by
      obtain ⟨m2, _, _, _, ⟨c2', -⟩, -, hM2, -⟩ := TR.out.cells HK.out
      rw [← HO.out, cm] at c2'
      cases c2'
      exact hM2.1
    clear hmk hg8 ht8 k8
    have hr8' : (Instr.mapUpdate 123 (.map (some mb)) (.string t) (.pointer (some ⟨wc.heap.size, 0, none⟩))).run Tryz.prog (wc.alloc (.cells #[.map none, .pointer none, .slice none 0 0, .slice none 0 0, .slice none 0 0] 127 (0, 0))).drew.drew = .ok () w8 := hr8
    clear hr8
    unfold newC at cm7 s17
    have hS0 : (fun W : World => W.cell? ⟨b, o, none⟩ = some (.map (some mb)) ∧ W.cell? ⟨sb, 1, none⟩ = some (.string t)) wc.drew.drew := ⟨cm, s1⟩
    refine wp_region_sink (S := (fun W : World => W.cell? ⟨b, o, none⟩ = some (.map (some mb)) ∧ W.cell? ⟨sb, 1, none⟩ = some (.string t))) (n := 1000) (by kernel_rfl) ?_
    change wpSink _ _ _ _ _ 1000 9 _ _ _
    refine sink_take1 (i := 0) (d := some 39) (v := ?_) rfl rfl (by kernel_rfl) (by decide) (by kernel_rfl) (by kernel_rfl) (fun _ _ _ h => h) (Or.inl ⟨by rfl, ?_⟩) hS0 ?_
    rotate_left
    · intro wz hSw
      (try dsimp only at hSw)
      obtain ⟨g1, g2⟩ := hSw
      go_simp
      (try with_reducible rfl)
    try simp only [Act.put, List.setIfInBounds_toArray, List.set_cons_zero, List.set_cons_succ]
    refine sink_take1 (i := 1) (d := some 40) (v := ?_) rfl rfl (by kernel_rfl) (by decide) (by kernel_rfl) (by kernel_rfl) (fun _ _ _ h => h) (Or.inl ⟨by rfl, ?_⟩) hS0 ?_
    rotate_left
    · intro wz hSw
      (try dsimp only at hSw)
      obtain ⟨g1, g2⟩ := hSw
      go_simp
      (try with_reducible rfl)
    try simp only [Act.put, List.setIfInBounds_toArray, List.set_cons_zero, List.set_cons_succ]
    refine sink_take1 (i := 2) (d := some 41) (v := ?_) rfl rfl (by kernel_rfl) (by decide) (by kernel_rfl) (by kernel_rfl) (fun _ _ _ h => h) (Or.inl ⟨by rfl, ?_⟩) hS0 ?_
    rotate_left
    · intro wz hSw
      (try dsimp only at hSw)
      obtain ⟨g1, g2⟩ := hSw
      go_simp
      (try with_reducible rfl)
    try simp only [Act.put, List.setIfInBounds_toArray, List.set_cons_zero, List.set_cons_succ]
    refine sink_take1 (i := 3) (d := some 42) (v := ?_) rfl rfl (by kernel_rfl) (by decide) (by kernel_rfl) (by kernel_rfl) (fun _ _ _ h => h) (Or.inl ⟨by rfl, ?_⟩) hS0 ?_
    rotate_left
    · intro wz hSw
      (try dsimp only at hSw)
      obtain ⟨g1, g2⟩ := hSw
      go_simp
      (try with_reducible rfl)
    try simp only [Act.put, List.setIfInBounds_toArray, List.set_cons_zero, List.set_cons_succ]
    refine sink_take1 (i := 4) (d := some 43) (v := ?_) rfl rfl (by kernel_rfl) (by decide) (by kernel_rfl) (by kernel_rfl) (fun _ _ _ h => h) (Or.inl ⟨by rfl, ?_⟩) hS0 ?_
    rotate_left
    · intro wz hSw
      (try dsimp only at hSw)
      obtain ⟨g1, g2⟩ := hSw
      go_simp
      (try with_reducible rfl)
    try simp only [Act.put, List.setIfInBounds_toArray, List.set_cons_zero, List.set_cons_succ]
    refine sink_take1 (i := 5) (d := some 44) (v := ?_) rfl rfl (by kernel_rfl) (by decide) (by kernel_rfl) (by kernel_rfl) (fun _ _ _ h => h) (Or.inl ⟨by rfl, ?_⟩) hS0 ?_
    rotate_left
    · intro wz hSw
      (try dsimp only at hSw)
      obtain ⟨g1, g2⟩ := hSw
      go_simp
      (try with_reducible rfl)
    try simp only [Act.put, List.setIfInBounds_toArray, List.set_cons_zero, List.set_cons_succ]
    refine sink_take1 (i := 6) (d := some 45) (v := ?_) rfl rfl (by kernel_rfl) (by decide) (by kernel_rfl) (by kernel_rfl) (fun _ _ _ h => h) (Or.inl ⟨by rfl, ?_⟩) hS0 ?_
    rotate_left
    · intro wz hSw
      (try dsimp only at hSw)
      obtain ⟨g1, g2⟩ := hSw
      go_simp
      (try with_reducible rfl)
    try simp only [Act.put, List.setIfInBounds_toArray, List.set_cons_zero, List.set_cons_succ]
    refine sink_one (i := 7) (by kernel_rfl) ?_
    refine wpOp_step rfl (fun K' hK => ?_)
    have HKK := Lib.hid hK
    clear hK
    rw [if_pos (by rfl)]
    go_simp
    refine HKK.out _ _ ⟨Or.inr (show (fun W : World => W.cell? ⟨b, o, none⟩ = some (.map (some mb)) ∧ W.cell? ⟨sb, 1, none⟩ = some (.string t)) _ from ⟨cm7, s17⟩), ?_⟩
    clear HKK
    try simp only [Act.put, List.setIfInBounds_toArray, List.set_cons_zero, List.set_cons_succ]
    refine sink_one (i := 8) (by kernel_rfl) ?_
    refine wpOp_step rfl (fun K' hK => ?_)
    have HKK := Lib.hid hK
    clear hK
    rw [if_pos (by rfl)]
    go_simp
    refine HKK.out _ _ ⟨Or.inr (show (fun W : World => W.cell? ⟨b, o, none⟩ = some (.map (some mb)) ∧ W.cell? ⟨sb, 1, none⟩ = some (.string t)) w8 from ⟨cm8, s18⟩), ?_⟩
    clear HKK
    try simp only [Act.put, List.setIfInBounds_toArray, List.set_cons_zero, List.set_cons_succ]
    refine sink_done (by kernel_rfl) ?_
    go_wp2_with fail
    have hS0 : (fun W : World => W.cell? ⟨b, o, none⟩ = some (.map (some mb)) ∧ W.cell? ⟨sb, 1, none⟩ = some (.string t) ∧ (Instr.lookup 123 (.map (some mb)) (.string t) false).run Tryz.prog W = .ok (.pointer (some ⟨wc.heap.size, 0, none⟩)) W) w8.drew := ⟨cm8, s18, LK8.out _ rfl⟩
    refine wp_region_sink (S := (fun W : World => W.cell? ⟨b, o, none⟩ = some (.map (some mb)) ∧ W.cell? ⟨sb, 1, none⟩ = some (.string t) ∧ (Instr.lookup 123 (.map (some mb)) (.string t) false).run Tryz.prog W = .ok (.pointer (some ⟨wc.heap.size, 0, none⟩)) W)) (n := 1000) (by kernel_rfl) ?_
    change wpSink _ _ _ _ _ 1000 8 _ _ _
    refine sink_take1 (i := 0) (d := some 47) (v := ?_) rfl rfl (by kernel_rfl) (by decide) (by kernel_rfl) (by kernel_rfl) (fun _ _ _ h => h) (Or.inl ⟨by rfl, ?_⟩) hS0 ?_
    rotate_left
    · intro wz hSw
      (try dsimp only at hSw)
      obtain ⟨g1, g2, g3⟩ := hSw
      go_simp
      (try with_reducible rfl)
    try simp only [Act.put, List.setIfInBounds_toArray, List.set_cons_zero, List.set_cons_succ]
    refine sink_take1 (i := 1) (d := some 48) (v := ?_) rfl rfl (by kernel_rfl) (by decide) (by kernel_rfl) (by kernel_rfl) (fun _ _ _ h => h) (Or.inl ⟨by rfl, ?_⟩) hS0 ?_
    rotate_left
    · intro wz hSw
      (try dsimp only at hSw)
      obtain ⟨g1, g2, g3⟩ := hSw
      go_simp
      (try with_reducible rfl)
    try simp only [Act.put, List.setIfInBounds_toArray, List.set_cons_zero, List.set_cons_succ]
    refine sink_take1 (i := 2) (d := some 49) (v := ?_) rfl rfl (by kernel_rfl) (by decide) (by kernel_rfl) (by kernel_rfl) (fun _ _ _ h => h) (Or.inl ⟨by rfl, ?_⟩) hS0 ?_
    rotate_left
    · intro wz hSw
      (try dsimp only at hSw)
      obtain ⟨g1, g2, g3⟩ := hSw
      go_simp
      (try with_reducible rfl)
    try simp only [Act.put, List.setIfInBounds_toArray, List.set_cons_zero, List.set_cons_succ]
    refine sink_take1 (i := 3) (d := some 50) (v := ?_) rfl rfl (by kernel_rfl) (by decide) (by kernel_rfl) (by kernel_rfl) (fun _ _ _ h => h) (Or.inl ⟨by rfl, ?_⟩) hS0 ?_
    rotate_left
    · intro wz hSw
      (try dsimp only at hSw)
      obtain ⟨g1, g2, g3⟩ := hSw
      go_simp
      (try with_reducible rfl)
    try simp only [Act.put, List.setIfInBounds_toArray, List.set_cons_zero, List.set_cons_succ]
    refine sink_take1 (i := 4) (d := some 51) (v := ?_) rfl rfl (by kernel_rfl) (by decide) (by kernel_rfl) (by kernel_rfl) (fun _ _ _ h => h) (Or.inl ⟨by rfl, ?_⟩) hS0 ?_
    rotate_left
    · intro wz hSw
      (try dsimp only at hSw)
      obtain ⟨g1, g2, g3⟩ := hSw
      go_simp
      (try with_reducible rfl)
    try simp only [Act.put, List.setIfInBounds_toArray, List.set_cons_zero, List.set_cons_succ]
    refine sink_take1 (i := 5) (d := some 52) (v := ?_) rfl rfl (by kernel_rfl) (by decide) (by kernel_rfl) (by kernel_rfl) (fun _ _ _ h => h) (Or.inl ⟨by rfl, ?_⟩) hS0 ?_
    rotate_left
    · intro wz hSw
      (try dsimp only at hSw)
      obtain ⟨g1, g2, g3⟩ := hSw
      go_simp
      (try with_reducible rfl)
    try simp only [Act.put, List.setIfInBounds_toArray, List.set_cons_zero, List.set_cons_succ]
    refine sink_take1 (i := 6) (d := some 53) (v := ?_) rfl rfl (by kernel_rfl) (by decide) (by kernel_rfl) (by kernel_rfl) (fun _ _ _ h => h) (Or.inl ⟨by rfl, ?_⟩) hS0 ?_
    rotate_left
    · intro wz hSw
      (try dsimp only at hSw)
      obtain ⟨g1, g2, g3⟩ := hSw
      go_simp
      (try with_reducible rfl)
    try simp only [Act.put, List.setIfInBounds_toArray, List.set_cons_zero, List.set_cons_succ]
    refine sink_take1 (i := 7) (d := some 4) (v := ?_) rfl rfl (by kernel_rfl) (by decide) (by kernel_rfl) (by kernel_rfl) (fun _ _ _ h => h) (Or.inl ⟨by rfl, ?_⟩) hS0 ?_
    rotate_left
    · intro wz hSw
      (try dsimp only at hSw)
      obtain ⟨g1, g2, g3⟩ := hSw
      go_simp
      (try with_reducible rfl)
    try simp only [Act.put, List.setIfInBounds_toArray, List.set_cons_zero, List.set_cons_succ]
    refine sink_done (by kernel_rfl) ?_
    go_wp2
    go_ret
    refine ⟨_, _, _, rfl, HT8.out.call ((Below.refl _ _).drew), upd_same _ _ _, fun k d hkd => ?_, by have h1 := S8.out; have h2 := SLT.out; have h3 := HSB.out; show _ ≤ w8.heap.size; omega, fun g hg hr => ?_⟩
    · rw [upd_other _ _ _ (by intro e; rw [e, HN.out] at hkd; cases hkd)]
      exact hkd
    · rw [HSB.out] at hg
      have hs := SLT.out
      obtain ⟨r1, r2⟩ := KP.out g hg hr
      refine ⟨?_, (K8.out g (by omega) (by intro e; rw [e, HMB.out] at r1; cases r1)).trans r2⟩
      rw [upd_other _ _ _ (by show g ≠ wc.heap.size; omega)]
      exact r1
  · have HN := Lib.hid hn
    rw [hn] at LK
    have LK2 : Hid (∀ W : World, W.heap[mb]? = wc.heap[mb]? → (Instr.lookup 123 (.map (some mb)) (.string t) false).run Tryz.prog W = .ok (.pointer (some ⟨N, 0, none⟩)) W) := LK.out
    clear hn LK
    go_wp2_with fail
    have hS0 : (fun W : World => W.cell? ⟨b, o, none⟩ = some (.map (some mb)) ∧ W.cell? ⟨sb, 1, none⟩ = some (.string t) ∧ (Instr.lookup 123 (.map (some mb)) (.string t) false).run Tryz.prog W = .ok (.pointer (some ⟨N, 0, none⟩)) W) wc.drew := ⟨cm, s1, LK2.out _ rfl⟩
    refine wp_region_sink (S := (fun W : World => W.cell? ⟨b, o, none⟩ = some (.map (some mb)) ∧ W.cell? ⟨sb, 1, none⟩ = some (.string t) ∧ (Instr.lookup 123 (.map (some mb)) (.string t) false).run Tryz.prog W = .ok (.pointer (some ⟨N, 0, none⟩)) W)) (n := 1000) (by kernel_rfl) ?_
    change wpSink _ _ _ _ _ 1000 8 _ _ _
    refine sink_take1 (i := 0) (d := some 31) (v := ?_) rfl rfl (by kernel_rfl) (by decide) (by kernel_rfl) (by kernel_rfl) (fun _ _ _ h => h) (Or.inl ⟨by rfl, ?_⟩) hS0 ?_
    rotate_left
    · intro wz hSw
      (try dsimp only at hSw)
      obtain ⟨g1, g2, g3⟩ := hSw
      go_simp
      (try with_reducible rfl)
    try simp only [Act.put, List.setIfInBounds_toArray, List.set_cons_zero, List.set_cons_succ]
    refine sink_take1 (i := 1) (d := some 32) (v := ?_) rfl rfl (by kernel_rfl) (by decide) (by kernel_rfl) (by kernel_rfl) (fun _ _ _ h => h) (Or.inl ⟨by rfl, ?_⟩) hS0 ?_
    rotate_left
    · intro wz hSw
      (try dsimp only at hSw)
      obtain ⟨g1, g2, g3⟩ := hSw
      go_simp
      (try with_reducible rfl)
    try simp only [Act.put, List.setIfInBounds_toArray, List.set_cons_zero, List.set_cons_succ]
    refine sink_take1 (i := 2) (d := some 33) (v := ?_) rfl rfl (by kernel_rfl) (by decide) (by kernel_rfl) (by kernel_rfl) (fun _ _ _ h => h) (Or.inl ⟨by rfl, ?_⟩) hS0 ?_
    rotate_left
    · intro wz hSw
      (try dsimp only at hSw)
      obtain ⟨g1, g2, g3⟩ := hSw
      go_simp
      (try with_reducible rfl)
    try simp only [Act.put, List.setIfInBounds_toArray, List.set_cons_zero, List.set_cons_succ]
    refine sink_take1 (i := 3) (d := some 34) (v := ?_) rfl rfl (by kernel_rfl) (by decide) (by kernel_rfl) (by kernel_rfl) (fun _ _ _ h => h) (Or.inl ⟨by rfl, ?_⟩) hS0 ?_
    rotate_left
    · intro wz hSw
      (try dsimp only at hSw)
      obtain ⟨g1, g2, g3⟩ := hSw
      go_simp
      (try with_reducible rfl)
    try simp only [Act.put, List.setIfInBounds_toArray, List.set_cons_zero, List.set_cons_succ]
    refine sink_take1 (i := 4) (d := some 35) (v := ?_) rfl rfl (by kernel_rfl) (by decide) (by kernel_rfl) (by kernel_rfl) (fun _ _ _ h => h) (Or.inl ⟨by rfl, ?_⟩) hS0 ?_
    rotate_left
    · intro wz hSw
      (try dsimp only at hSw)
      obtain ⟨g1, g2, g3⟩ := hSw
      go_simp
      (try with_reducible rfl)
    try simp only [Act.put, List.setIfInBounds_toArray, List.set_cons_zero, List.set_cons_succ]
    refine sink_take1 (i := 5) (d := some 36) (v := ?_) rfl rfl (by kernel_rfl) (by decide) (by kernel_rfl) (by kernel_rfl) (fun _ _ _ h => h) (Or.inl ⟨by rfl, ?_⟩) hS0 ?_
    rotate_left
    · intro wz hSw
      (try dsimp only at hSw)
      obtain ⟨g1, g2, g3⟩ := hSw
      go_simp
      (try with_reducible rfl)
    try simp only [Act.put, List.setIfInBounds_toArray, List.set_cons_zero, List.set_cons_succ]
    refine sink_take1 (i := 6) (d := some 37) (v := ?_) rfl rfl (by kernel_rfl) (by decide) (by kernel_rfl) (by kernel_rfl) (fun _ _ _ h => h) (Or.inl ⟨by rfl, ?_⟩) hS0 ?_
    rotate_left
    · intro wz hSw
      (try dsimp only at hSw)
      obtain ⟨g1, g2, g3⟩ := hSw
      go_simp
      (try with_reducible rfl)
    try simp only [Act.put, List.setIfInBounds_toArray, List.set_cons_zero, List.set_cons_succ]
    refine sink_take1 (i := 7) (d := some 38) (v := ?_) rfl rfl (by kernel_rfl) (by decide) (by kernel_rfl) (by kernel_rfl) (fun _ _ _ h => h) (Or.inl ⟨by rfl, ?_⟩) hS0 ?_
    rotate_left
    · intro wz hSw
      (try dsimp only at hSw)
      obtain ⟨g1, g2, g3⟩ := hSw
      go_simp
      (try with_reducible rfl)
    try simp only [Act.put, List.setIfInBounds_toArray, List.set_cons_zero, List.set_cons_succ]
    refine sink_done (by kernel_rfl) ?_
    go_wp2_with fail
    have hS0 : (fun W : World => W.cell? ⟨b, o, none⟩ = some (.map (some mb)) ∧ W.cell? ⟨sb, 1, none⟩ = some (.string t) ∧ (Instr.lookup 123 (.map (some mb)) (.string t) false).run Tryz.prog W = .ok (.pointer (some ⟨N, 0, none⟩)) W) wc.drew.drew := ⟨cm, s1, LK2.out _ rfl⟩
    refine wp_region_sink (S := (fun W : World => W.cell? ⟨b, o, none⟩ = some (.map (some mb)) ∧ W.cell? ⟨sb, 1, none⟩ = some (.string t) ∧ (Instr.lookup 123 (.map (some mb)) (.string t) false).run Tryz.prog W = .ok (.pointer (some ⟨N, 0, none⟩)) W)) (n := 1000) (by kernel_rfl) ?_
    change wpSink _ _ _ _ _ 1000 8 _ _ _
    refine sink_take1 (i := 0) (d := some 47) (v := ?_) rfl rfl (by kernel_rfl) (by decide) (by kernel_rfl) (by kernel_rfl) (fun _ _ _ h => h) (Or.inl ⟨by rfl, ?_⟩) hS0 ?_
    rotate_left
    · intro wz hSw
      (try dsimp only at hSw)
      obtain ⟨g1, g2, g3⟩ := hSw
      go_simp
      (try with_reducible rfl)
    try simp only [Act.put, List.setIfInBounds_toArray, List.set_cons_zero, List.set_cons_succ]
    refine sink_take1 (i := 1) (d := some 48) (v := ?_) rfl rfl (by kernel_rfl) (by decide) (by kernel_rfl) (by kernel_rfl) (fun _ _ _ h => h) (Or.inl ⟨by rfl, ?_⟩) hS0 ?_
    rotate_left
    · intro wz hSw
      (try dsimp only at hSw)
      obtain ⟨g1, g2, g3⟩ := hSw
      go_simp
      (try with_reducible rfl)
    try simp only [Act.put, List.setIfInBounds_toArray, List.set_cons_zero, List.set_cons_succ]
    refine sink_take1 (i := 2) (d := some 49) (v := ?_) rfl rfl (by kernel_rfl) (by decide) (by kernel_rfl) (by kernel_rfl) (fun _ _ _ h => h) (Or.inl ⟨by rfl, ?_⟩) hS0 ?_
    rotate_left
    · intro wz hSw
      (try dsimp only at hSw)
      obtain ⟨g1, g2, g3⟩ := hSw
      go_simp
      (try with_reducible rfl)
    try simp only [Act.put, List.setIfInBounds_toArray, List.set_cons_zero, List.set_cons_succ]
    refine sink_take1 (i := 3) (d := some 50) (v := ?_) rfl rfl (by kernel_rfl) (by decide) (by kernel_rfl) (by kernel_rfl) (fun _ _ _ h => h) (Or.inl ⟨by rfl, ?_⟩) hS0 ?_
    rotate_left
    · intro wz hSw
      (try dsimp only at hSw)
      obtain ⟨g1, g2, g3⟩ := hSw
      go_simp
      (try with_reducible rfl)
    try simp only [Act.put, List.setIfInBounds_toArray, List.set_cons_zero, List.set_cons_succ]
    refine sink_take1 (i := 4) (d := some 51) (v := ?_) rfl rfl (by kernel_rfl) (by decide) (by kernel_rfl) (by kernel_rfl) (fun _ _ _ h => h) (Or.inl ⟨by rfl, ?_⟩) hS0 ?_
    rotate_left
    · intro wz hSw
      (try dsimp only at hSw)
      obtain ⟨g1, g2, g3⟩ := hSw
      go_simp
      (try with_reducible rfl)
    try simp only [Act.put, List.setIfInBounds_toArray, List.set_cons_zero, List.set_cons_succ]
    refine sink_take1 (i := 5) (d := some 52) (v := ?_) rfl rfl (by kernel_rfl) (by decide) (by kernel_rfl) (by kernel_rfl) (fun _ _ _ h => h) (Or.inl ⟨by rfl, ?_⟩) hS0 ?_
    rotate_left
    · intro wz hSw
      (try dsimp only at hSw)
      obtain ⟨g1, g2, g3⟩ := hSw
      go_simp
      (try with_reducible rfl)
    try simp only [Act.put, List.setIfInBounds_toArray, List.set_cons_zero, List.set_cons_succ]
    refine sink_take1 (i := 6) (d := some 53) (v := ?_) rfl rfl (by kernel_rfl) (by decide) (by kernel_rfl) (by kernel_rfl) (fun _ _ _ h => h) (Or.inl ⟨by rfl, ?_⟩) hS0 ?_
    rotate_left
    · intro wz hSw
      (try dsimp only at hSw)
      obtain ⟨g1, g2, g3⟩ := hSw
      go_simp
      (try with_reducible rfl)
    try simp only [Act.put, List.setIfInBounds_toArray, List.set_cons_zero, List.set_cons_succ]
    refine sink_take1 (i := 7) (d := some 4) (v := ?_) rfl rfl (by kernel_rfl) (by decide) (by kernel_rfl) (by kernel_rfl) (fun _ _ _ h => h) (Or.inl ⟨by rfl, ?_⟩) hS0 ?_
    rotate_left
    · intro wz hSw
      (try dsimp only at hSw)
      obtain ⟨g1, g2, g3⟩ := hSw
      go_simp
      (try with_reducible rfl)
    try simp only [Act.put, List.setIfInBounds_toArray, List.set_cons_zero, List.set_cons_succ]
    refine sink_done (by kernel_rfl) ?_
    go_wp2
    go_ret
    exact ⟨N, nd, ro2, rfl, (TR.out.call ((Below.refl _ _).drew.drew)).mono (Nat.le_succ _), HN.out, fun _ _ h => h, by have h2 := SLT.out; have h3 := HSB.out; show _ ≤ wc.heap.size; omega, fun g hg hr => KP.out g (by rw [← HSB.out]; exact hg) hr⟩
end
end Go.Proofs.YthigandmemifoaaGreatDoor
