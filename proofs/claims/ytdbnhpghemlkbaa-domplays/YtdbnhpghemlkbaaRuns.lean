/-
  Chapter 12's runs: DomRuns returns true.
-/
import Derived.Test.YtdbnhpghemlkbaaTr2
namespace Go.Proofs.Ytdbnhpghemlkbaa
open Go.RowKit Go.PlainAid Dm
set_option maxRecDepth 100000

/-- a dom that the call made, and all it turned -/
def Mine (M : Mo) (ro : Ros) (D : Nat) (s : St) (B : Nat) (w0 w : World) : Prop := Dom M ro w D s ∧ (∀ k, ro k ≠ 0 → B ≤ k) ∧ Below B w0 w ∧ B ≤ w.heap.size
theorem Mine.turn {M : Mo} {ro : Ros} {D B : Nat} {s s' : St} {w0 w w' : World} {S : Nat → Prop} (h : Mine M ro D s B w0 w) (ht : Turn M ro D s' S w w') : ∃ ro', Mine M ro' D s' B w0 w' := by
  obtain ⟨hd, hr, hb, hz⟩ := h
  obtain ⟨ro', h1, h2, h3, h4⟩ := ht
  refine ⟨ro', h1, fun k hk => (h3 k hk).elim (hr k) (fun e => Nat.le_trans hz e), hb.trans (h4.below hz (fun k hk e => by have := hr k e.1; omega)), Nat.le_trans hz h4.size⟩
theorem Mine.call {M : Mo} {ro : Ros} {D B : Nat} {s : St} {w0 w w' : World} (h : Mine M ro D s B w0 w) (hb : Below w.heap.size w w') : Mine M ro D s B w0 w' :=
  ⟨h.1.call hb, h.2.1, h.2.2.1.trans (hb.mono h.2.2.2), Nat.le_trans h.2.2.2 hb.size⟩
theorem NewD.mine {M : Mo} {s : St} {w w' : World} {e : Ending} (h : NewD M s w e w') : ∃ D ro, e = .returned (.pointer (some ⟨D, 0, none⟩)) ∧ Mine M ro D s w.heap.size w w' := by
  obtain ⟨D, ro, he, hd, hr, hb⟩ := h
  exact ⟨D, ro, he, hd, hr, hb, hb.size⟩

/-- blocks that stay, and are none of the dom's -/
def Zon (a b : Nat) (ro : Ros) (w w0 : World) : Prop := (∀ k, a ≤ k → k < b → ro k = 0 ∧ w.heap[k]? = w0.heap[k]?) ∧ b ≤ w.heap.size
theorem Mine.turnZ {M : Mo} {ro : Ros} {D B a b : Nat} {s s' : St} {w0 w w' wz : World} {S : Nat → Prop} (h : Mine M ro D s B w0 w) (hz : Zon a b ro w wz) (ht : Turn M ro D s' S w w') : ∃ ro', Mine M ro' D s' B w0 w' ∧ Zon a b ro' w' wz := by
  obtain ⟨hd, hr, hb, hzz⟩ := h
  obtain ⟨ro', h1, h2, h3, h4⟩ := ht
  refine ⟨ro', ⟨h1, fun k hk => (h3 k hk).elim (hr k) (fun e => Nat.le_trans hzz e), hb.trans (h4.below hzz (fun k hk e => by have := hr k e.1; omega)), Nat.le_trans hzz h4.size⟩, fun k h5 h6 => ?_, Nat.le_trans hz.2 h4.size⟩
  obtain ⟨h7, h8⟩ := hz.1 k h5 h6
  have hlt : k < w.heap.size := Nat.lt_of_lt_of_le h6 hz.2
  refine ⟨?_, (h4.block k hlt (fun e => e.1 h7)).trans h8⟩
  by_cases e : ro' k = 0
  · exact e
  · rcases h3 k e with e | e
    · exact absurd h7 e
    · omega
theorem Zon.call {a b : Nat} {ro : Ros} {w w' wz : World} (h : Zon a b ro w wz) (hb : Below w.heap.size w w') : Zon a b ro w' wz :=
  ⟨fun k h1 h2 => ⟨(h.1 k h1 h2).1, (hb.block k (Nat.lt_of_lt_of_le h2 h.2)).trans (h.1 k h1 h2).2⟩, Nat.le_trans h.2 hb.size⟩
theorem four (w : World) (a b c d : Obj) : (((w.alloc a).alloc b).alloc c |>.alloc d).heap[w.heap.size]? = some a ∧ (((w.alloc a).alloc b).alloc c |>.alloc d).heap[w.heap.size + 1]? = some b ∧ (((w.alloc a).alloc b).alloc c |>.alloc d).heap[w.heap.size + 1 + 1]? = some c ∧ (((w.alloc a).alloc b).alloc c |>.alloc d).heap[w.heap.size + 1 + 1 + 1]? = some d ∧ Below w.heap.size w (((w.alloc a).alloc b).alloc c |>.alloc d) := by
  have e1 : ((w.alloc a).alloc b).heap.size = w.heap.size + 1 + 1 := by simp
  have e2 : (((w.alloc a).alloc b).alloc c).heap.size = w.heap.size + 1 + 1 + 1 := by simp
  refine ⟨blk_alloc (blk_alloc (blk_alloc (blk_new w a) b) c) d, blk_alloc (blk_alloc (blk_new1 w a b) c) d, blk_alloc (e1 ▸ blk_new ((w.alloc a).alloc b) c) d, e2 ▸ blk_new (((w.alloc a).alloc b).alloc c) d, ?_⟩
  exact ((((Below.refl _ w).alloc (Nat.le_refl _) a).alloc (by simp) b).alloc (by omega) c).alloc (by omega) d
theorem ps_nil (w : World) : Ps w (.slice none 0 0) [] := ⟨none, 0, rfl, Nat.le_refl _, fun _ => rfl, fun i hi => absurd hi (Nat.not_lt_zero i)⟩
theorem trW_leaf {p : Nat → Prop} (w : World) (tag key text : Tx) : TrW p w (.agg #[.string tag, .string key, .string text, .slice none 0 0, .slice none 0 0]) (.mk tag key text [] []) :=
  .mk (kids := []) (fun _ => undef) ⟨Nat.zero_le _, Nat.zero_le _⟩ (ps_nil w) (fun a n c e => by cases e) (Nat.zero_le _) (fun i hi => absurd hi (Nat.not_lt_zero i)) (fun i hi => absurd hi (Nat.not_lt_zero i))
theorem trW_one {p : Nat → Prop} {w : World} {b : Nat} {x0 x1 x2 x3 x4 : Value} {t : Tr} (tag key text : Tx) (h : w.heap[b]? = some (.cells #[x0, x1, x2, x3, x4] 31 (0, 0))) (hp : p b) (ht : TrW p w (.agg #[x0, x1, x2, x3, x4]) t) :
    TrW p w (.agg #[.string tag, .string key, .string text, .slice none 0 0, .slice (some ⟨b, 0, none⟩) 1 1]) (.mk tag key text [] [t]) := by
  refine .mk (kids := [t]) (fun _ => .agg #[x0, x1, x2, x3, x4]) ⟨Nat.zero_le _, by simp⟩ (ps_nil w) (fun a n c e => by cases e) (Nat.le_refl _) (fun i hi => ?_) (fun i hi => ?_)
  · obtain rfl : i = 0 := by simpa using hi
    refine ⟨b, 0, x0, x1, x2, x3, x4, rfl, hp, rfl, ?_, ?_, ?_, ?_, ?_⟩ <;> rw [blk_cell h] <;> rfl
  · obtain rfl : i = 0 := by simpa using hi
    exact ht

/-! attributes stay few -/
theorem fit_new : Fit St.new := by
  intro i
  by_cases h : i = 1
  · subst h; exact Nat.zero_le _
  · have : St.new.nd i = nd0 := by simp [St.new, h]
    rw [this]; exact Nat.zero_le _
theorem fit_put {s : St} (h : Fit s) (i : Nat) (n : Nd) (hn : n.attrs.length ≤ 1000000) : Fit (s.put i n) := by
  intro j
  by_cases e : j = i
  · subst e; rw [St.put_same]; exact hn
  · rw [St.put_ne s n e]; exact h j
theorem fit_make {s : St} (h : Fit s) (n : Nd) (hn : n.attrs.length ≤ 1000000) : Fit (s.make n) := by
  intro j
  rw [make_nd]
  exact fit_put h _ n hn j
theorem fit_newNd {s : St} (h : Fit s) (a b c : Tx) : Fit (s.make (newNd a b c)) := fit_make h _ (Nat.zero_le _)
theorem fit_out {s : St} (h : Fit s) (i : Nat) : Fit (s.out i) := by
  unfold St.out
  refine fit_put (fit_put h _ _ ?_) _ _ ?_
  · exact h (s.nd i).par
  · exact h i
theorem fit_loosen {s : St} (h : Fit s) (i : Nat) : Fit (s.loosen i) := by
  unfold St.loosen
  split
  · exact h
  · exact fit_out h i
theorem fit_attach {s : St} (h : Fit s) (p c k : Nat) : Fit (s.attach p c k) := by
  unfold St.attach
  refine fit_put (fit_put h _ _ ?_) _ _ ?_
  · exact h p
  · exact h c
theorem fit_insert {s : St} (h : Fit s) (p c : Nat) (a : Int) : Fit (s.insert p c a) := fit_attach (fit_loosen h c) _ _ _
theorem fit_drop {s : St} (h : Fit s) (L : List Nat) : Fit (s.drop L) := by
  intro i
  unfold St.drop
  simp only
  split
  · exact Nat.zero_le _
  · exact h i
theorem fit_attrs {s : St} (h : Fit s) (i : Nat) (l : List Pr) (hl : l.length ≤ 1000000) : Fit (s.setAttrs i l) := fit_put h _ _ hl
theorem fit_text {s : St} (h : Fit s) (i : Nat) (x : Tx) : Fit (s.setText i x) := fit_put h _ _ (h i)

/-! the states -/
def rs1 : St := St.new.make (newNd ⟨#[97]⟩ ⟨#[]⟩ ⟨#[]⟩)
def rs2 : St := rs1.make (newNd ⟨#[]⟩ ⟨#[]⟩ ⟨#[120]⟩)
def rs3 : St := rs2.insert 1 2 0
def rs4 : St := rs3.insert 2 3 0
def rs5 : St := rs4.out 2
def rs6 : St := rs5.drop [2, 3]
def rs7 : St := rs6.make (newNd ⟨#[]⟩ ⟨#[]⟩ ⟨#[]⟩)
def rs8 : St := rs7.make (newNd ⟨#[]⟩ ⟨#[]⟩ ⟨#[]⟩)
theorem v1 : Inv rs1 := inv_new_node inv_new _ _ _
theorem v2 : Inv rs2 := inv_new_node v1 _ _ _
theorem f1 : St.new.fresh = 2 := rfl
theorem f2 : rs1.fresh = 3 := rfl
theorem m3 : rs2.mayInsert 1 2 := by
  refine ⟨rfl, rfl, ?_, by decide, ?_⟩
  · intro e
    have h : (⟨#[114, 111, 111, 116]⟩ : ByteArray) = ⟨#[]⟩ := e
    cases h
  rintro ⟨_, n, hn⟩
  cases n with
  | zero => cases hn
  | succ n =>
    have : rs2.anc n 0 = 2 := hn
    rw [v2.anc_zero] at this
    cases this
theorem v3 : Inv rs3 := inv_insert v2 m3 0
theorem m4 : rs3.mayInsert 2 3 := by
  refine ⟨rfl, rfl, ?_, by decide, ?_⟩
  · intro e
    have h : (⟨#[97]⟩ : ByteArray) = ⟨#[]⟩ := e
    cases h
  rintro ⟨_, n, hn⟩
  cases n with
  | zero => cases hn
  | succ n =>
    cases n with
    | zero => cases hn
    | succ n =>
      have : rs3.anc n 0 = 3 := hn
      rw [v3.anc_zero] at this
      cases this
theorem v4 : Inv rs4 := inv_insert v3 m4 0
theorem m4n : ¬ rs4.mayInsert 3 2 := by
  rintro ⟨_, _, h, _⟩
  exact h rfl
theorem t4 : Trs rs4.nd [1] [.mk ⟨#[114, 111, 111, 116]⟩ ⟨#[]⟩ ⟨#[]⟩ [] [.mk ⟨#[97]⟩ ⟨#[]⟩ ⟨#[]⟩ [] [.mk ⟨#[]⟩ ⟨#[]⟩ ⟨#[120]⟩ [] []]]] :=
  .cons (show Trs rs4.nd [2] _ from .cons (show Trs rs4.nd [3] _ from .cons (show Trs rs4.nd [] _ from .nil) .nil) .nil) .nil
theorem m5 : rs4.mayDetach 2 := ⟨rfl, by decide⟩
theorem v5 : Inv rs5 := inv_detach v4 m5
theorem m6 : rs5.mayFree 2 := ⟨rfl, by decide, rfl⟩
theorem p6 : Pres rs5.nd [2] [2, 3] :=
  Pres.cons (L1 := [3]) (L2 := []) (show Pres rs5.nd [3] [3] from Pres.cons (L1 := []) (L2 := []) (show Pres rs5.nd [] [] from .nil) .nil) .nil
theorem v6 : Inv rs6 := inv_free v5 m6 p6
theorem v7 : Inv rs7 := inv_new_node v6 _ _ _
theorem v8 : Inv rs8 := inv_new_node v7 _ _ _
theorem fit4 : Fit rs4 := fit_insert (fit_insert (fit_newNd (fit_newNd fit_new _ _ _) _ _ _) _ _ _) _ _ _
theorem pair_out (ro : Ros) (w : World) (e : Ending) (w' : World) (t : Tr) (h : YesT ro t w e w') : ∃ g k x A n a K m c, e = .returned (.tuple #[.agg #[.string g, .string k, .string x, .slice A n a, .slice K m c], .bool true]) ∧ TrW (fun k => ro k ≠ 0 ∨ w.heap.size ≤ k) w' (.agg #[.string g, .string k, .string x, .slice A n a, .slice K m c]) t ∧ Below w.heap.size w w' := by
  obtain ⟨v, rfl, hv, hb⟩ := h
  obtain ⟨g5, k5, x5, at5, kd5, A5, n5, a5, K5, c5, et, rfl⟩ := hv.parts
  exact ⟨_, _, _, _, _, _, _, _, _, rfl, hv, hb⟩

set_option maxHeartbeats 6400000 in
theorem runs3 (w : World) : Calls Try.prog 3 #[] w fun e w' => e = .returned (.bool true) ∧ Below w.heap.size w w' := by
  go_enter Try.func3, Try.ntmps3
  go_wp2_with fail
  refine (new7 w).mono ?_
  rintro e w1 he
  obtain ⟨D, ro1, rfl, M1⟩ := he.mine
  replace M1 := Lib.hid M1
  clear he
  go_wp2_with fail
  refine (element8 ⟨#[97]⟩ ⟨#[]⟩ w1 M1.out.1 inv_new (by decide)).mono ?_
  rintro e w2 ⟨rfl, TU⟩
  obtain ⟨ro2, M2⟩ := M1.out.turn TU
  change Mine mP ro2 D rs1 w.heap.size w w2 at M2
  replace M2 := Lib.hid M2
  rw [f1]
  clear TU M1
  go_wp2_with fail
  refine (text9 ⟨#[120]⟩ ⟨#[]⟩ w2 M2.out.1 v1 (by decide)).mono ?_
  rintro e w3 ⟨rfl, TU⟩
  obtain ⟨ro3, M3⟩ := M2.out.turn TU
  change Mine mP ro3 D rs2 w.heap.size w w3 at M3
  replace M3 := Lib.hid M3
  rw [f2]
  clear TU M2
  go_wp2_with fail
  refine (root11 _ w3).mono ?_
  rintro e w3 ⟨rfl, rfl⟩
  go_wp2_with fail
  refine (insert10_yes 1 2 0 w3 M3.out.1 v2 m3 (by decide)).mono ?_
  rintro e w4 ⟨rfl, TU⟩
  obtain ⟨ro4, M4⟩ := M3.out.turn TU
  change Mine mP ro4 D rs3 w.heap.size w w4 at M4
  replace M4 := Lib.hid M4
  clear TU M3
  go_wp2_with fail
  refine (insert10_yes 2 3 0 w4 M4.out.1 v3 m4 (by decide)).mono ?_
  rintro e w5 ⟨rfl, TU⟩
  obtain ⟨ro5, M5⟩ := M4.out.turn TU
  change Mine mP ro5 D rs4 w.heap.size w w5 at M5
  replace M5 := Lib.hid M5
  clear TU M4
  go_wp2_with fail
  refine (insert10_no 3 2 0 w5 M5.out.1 v4 m4n).mono ?_
  rintro e w6 ⟨rfl, hb⟩
  have M6 := Lib.hid (M5.out.call hb)
  clear hb M5
  go_wp2_with fail
  refine (root11 _ w6).mono ?_
  rintro e w6 ⟨rfl, rfl⟩
  go_wp2_with fail
  refine (tree12_yes 1 _ w6 M6.out.1 v4 fit4 (by decide) rfl t4).mono ?_
  rintro e w7 he
  obtain ⟨g, k, x, A, n, a, K, m, c, rfl, TW, hb⟩ := pair_out _ _ _ _ _ he
  have S67 := Lib.hid hb.size
  have R6 := Lib.hid M6.out.1.lt
  have M7 := Lib.hid (M6.out.call hb)
  replace TW := Lib.hid TW
  clear hb M6 he
  go_wp2_with fail
  have F4 := four w7 (.cells #[.string g, .string k, .string x, .slice A n a, .slice K m c] 31 (0, 0)) (.cells #[.string ⟨#[]⟩, .string ⟨#[]⟩, .string ⟨#[120]⟩, .slice none 0 0, .slice none 0 0] 31 (0, 0)) (.cells #[.string ⟨#[97]⟩, .string ⟨#[]⟩, .string ⟨#[]⟩, .slice none 0 0, .slice (some ⟨w7.heap.size + 1, 0, none⟩) 1 1] 31 (0, 0)) (.cells #[.string ⟨#[114, 111, 111, 116]⟩, .string ⟨#[]⟩, .string ⟨#[]⟩, .slice none 0 0, .slice (some ⟨w7.heap.size + 1 + 1, 0, none⟩) 1 1] 31 (0, 0))
  generalize (((w7.alloc _).alloc _).alloc _).alloc _ = w8 at *
  have TWW := Lib.hid (TW.out.call F4.2.2.2.2)
  have ZZ : Hid (Zon w6.heap.size w8.heap.size ro5 w8 w8) := ⟨fun k h1 h2 => ⟨by
    by_cases e : ro5 k = 0
    · exact e
    · have := R6.out k e
      omega, rfl⟩, Nat.le_refl _⟩
  have hz78 : w7.heap.size + 1 + 1 + 1 < w8.heap.size := blk_lt F4.2.2.2.1
  have WT : Hid (TrW (fun k => w6.heap.size ≤ k ∧ k < w8.heap.size) w8 (.agg #[.string ⟨#[114, 111, 111, 116]⟩, .string ⟨#[]⟩, .string ⟨#[]⟩, .slice none 0 0, .slice (some ⟨w7.heap.size + 1 + 1, 0, none⟩) 1 1]) (.mk ⟨#[114, 111, 111, 116]⟩ ⟨#[]⟩ ⟨#[]⟩ [] [.mk ⟨#[97]⟩ ⟨#[]⟩ ⟨#[]⟩ [] [.mk ⟨#[]⟩ ⟨#[]⟩ ⟨#[120]⟩ [] []]])) :=
    trW_one _ _ _ F4.2.2.1 ⟨by have := S67.out; omega, by omega⟩ (trW_one _ _ _ F4.2.1 ⟨by have := S67.out; omega, by omega⟩ (trW_leaf _ _ _ _))
  have BX := Lib.hid F4.1
  have BY := Lib.hid F4.2.2.2.1
  have M8 := Lib.hid (M7.out.call F4.2.2.2.2)
  clear F4 M7 TW
  refine (detach13_yes 2 w8 M8.out.1 v4 m5 (by decide)).mono ?_
  rintro e w9 ⟨rfl, TU⟩
  obtain ⟨ro9, M9, Z9⟩ := M8.out.turnZ ZZ.out TU
  change Mine mP ro9 D rs5 w.heap.size w w9 at M9
  replace M9 := Lib.hid M9
  replace Z9 := Lib.hid Z9
  clear TU M8 ZZ
  go_wp2_with fail
  refine (free14_yes 2 [2, 3] w9 M9.out.1 v5 m6 p6 (by decide)).mono ?_
  rintro e w10 ⟨rfl, TU⟩
  obtain ⟨ro10, M10, Z10⟩ := M9.out.turnZ Z9.out TU
  change Mine mP ro10 D rs6 w.heap.size w w10 at M10
  replace M10 := Lib.hid M10
  replace Z10 := Lib.hid Z10
  clear TU M9 Z9
  go_wp2_with fail
  refine (root11 _ w10).mono ?_
  rintro e w10 ⟨rfl, rfl⟩
  have hbx := (Z10.out.1 w7.heap.size S67.out (by omega)).2.trans BX.out
  have hby := (Z10.out.1 (w7.heap.size + 1 + 1 + 1) (by have := S67.out; omega) (by omega)).2.trans BY.out
  have x0 := blk_cell hbx 0
  have x1 := blk_cell hbx 1
  have x2 := blk_cell hbx 2
  have x3 := blk_cell hbx 3
  have x4 := blk_cell hbx 4
  have y0 := blk_cell hby 0
  have y1 := blk_cell hby 1
  have y2 := blk_cell hby 2
  have y3 := blk_cell hby 3
  have y4 := blk_cell hby 4
  simp at x0 x1 x2 x3 x4 y0 y1 y2 y3 y4
  have TA := Lib.hid ((TWW.out.mono (q := fun k => w6.heap.size ≤ k ∧ k < w8.heap.size) (fun k hp hl => ⟨hp.resolve_left (fun e => e rfl), hl⟩)).frame (fun k hp _ => (Z10.out.1 k hp.1 hp.2).2))
  have TB := Lib.hid (WT.out.frame (fun k hp _ => (Z10.out.1 k hp.1 hp.2).2))
  clear hbx hby TWW WT BX BY
  go_wp2_with fail
  refine (trees15 (tsz (.mk ⟨#[114, 111, 111, 116]⟩ ⟨#[]⟩ ⟨#[]⟩ [] [.mk ⟨#[97]⟩ ⟨#[]⟩ ⟨#[]⟩ [] [.mk ⟨#[]⟩ ⟨#[]⟩ ⟨#[120]⟩ [] []]])) _ _ _ _ w10 (Nat.le_refl _) TA.out TB.out).mono ?_
  rintro e w11 ⟨rfl, hb⟩
  rw [trB_true rfl]
  have M11 := Lib.hid (M10.out.call hb)
  clear hb M10 Z10 TA TB x0 x1 x2 x3 x4 y0 y1 y2 y3 y4
  go_wp2_with fail
  refine (text9 ⟨#[]⟩ ⟨#[]⟩ w11 M11.out.1 v6 (by decide)).mono ?_
  rintro e w12 ⟨rfl, TU⟩
  obtain ⟨ro12, M12⟩ := M11.out.turn TU
  change Mine mP ro12 D rs7 w.heap.size w w12 at M12
  replace M12 := Lib.hid M12
  rw [show rs6.fresh = 3 from rfl]
  clear TU M11
  go_wp2_with fail
  refine (text9 ⟨#[]⟩ ⟨#[]⟩ w12 M12.out.1 v7 (by decide)).mono ?_
  rintro e w13 ⟨rfl, TU⟩
  obtain ⟨ro13, M13⟩ := M12.out.turn TU
  change Mine mP ro13 D rs8 w.heap.size w w13 at M13
  replace M13 := Lib.hid M13
  rw [show rs7.fresh = 2 from rfl]
  clear TU M12
  go_wp2_with fail
  refine (count16 w13 M13.out.1 (by decide) (by decide)).mono ?_
  rintro e w14 ⟨rfl, hb⟩
  rw [show ((rs8.top : Int) - rs8.freed.length) = 3 from rfl]
  have M14 := Lib.hid (M13.out.call hb)
  clear hb M13
  go_wp2
  go_ret
  exact ⟨rfl, M14.out.2.2.1⟩
end Go.Proofs.Ytdbnhpghemlkbaa
