/-
  Put together: Base, Cmp, Fst.
-/
import Derived.Test.YthigandmemifoaaGreatDoorP03
import Derived.Deep.RegionHeld3
import Derived.Deep.RegionLaw
import Derived.Laws.ResultCell
import Derived.Test.YthigandmemifoaaGreatDoorP01
import Derived.Sort.Walk0
import Derived.Laws.Cover1
import Derived.Deep.QuietTactic
import Derived.BigQuiet
namespace Go.Proofs.YthigandmemifoaaGreatDoor
open Go.RowKit Go.PlainAid
set_option maxRecDepth 100000

theorem size_st0 : (⟨#[]⟩ : ByteArray).size = 0 := rfl
theorem getD_mem {α : Type} [Inhabited α] (l : List α) (k : Nat) (h : k < l.length) : l.getD k default ∈ l := by
  simp [List.getD, h]
theorem take_next {α β : Type} [Inhabited α] (f : α → β) (l : List α) (k : Nat) (h : k < l.length) : (l.take (k + 1)).map f = (l.take k).map f ++ [f (l.getD k default)] := by
  have e : l.take (k + 1) = l.take k ++ [l.getD k default] := by
    rw [List.take_add_one]
    simp only [List.getD, List.getElem?_eq_getElem h, Option.toList_some, Option.getD_some]
  rw [e, List.map_append]
  rfl
theorem all_next {α : Type} [Inhabited α] (f : α → Bool) (l : List α) (k : Nat) (h : k < l.length) : (l.take (k + 1)).all f = ((l.take k).all f && f (l.getD k default)) := by
  have e : l.take (k + 1) = l.take k ++ [l.getD k default] := by
    rw [List.take_add_one]
    simp only [List.getD, List.getElem?_eq_getElem h, Option.toList_some, Option.getD_some]
  rw [e, List.all_append]
  simp
theorem all_not {α : Type} [Inhabited α] (f : α → Bool) (l : List α) (k : Nat) (h : k < l.length) (hf : f (l.getD k default) = false) : l.all f = false := by
  rw [List.all_eq_false]
  exact ⟨_, getD_mem l k h, by rw [hf]; decide⟩

theorem Ss.shape {w : World} {v : Value} {l : List ByteArray} (h : Ss w v l) : ∃ A n c, v = .slice A n c := by
  obtain ⟨A, cap, e, _⟩ := h
  exact ⟨_, _, _, e⟩
theorem Ps.shape {w : World} {v : Value} {l : List Pr} (h : Ps w v l) : ∃ A n c, v = .slice A n c := by
  obtain ⟨A, cap, e, _⟩ := h
  exact ⟨_, _, _, e⟩

/-- a new block of texts -/
theorem ss_new {w : World} {b : Nat} {l : List ByteArray} {n : Nat} (h : w.heap[b]? = some (.cells (l.map Value.string).toArray 9 (0, 0))) (hn : l.length = n) : Ss w (.slice (some ⟨b, 0, none⟩) n n) l := by
  subst hn
  refine ⟨_, _, rfl, Nat.le_refl _, (fun h => by cases h), fun i hi => ⟨b, 0, rfl, ?_⟩⟩
  rw [blk_cell h]
  simp [List.getD, hi]
theorem ps_new {w : World} {b : Nat} {l : List Pr} {n : Nat} (h : w.heap[b]? = some (.cells (l.flatMap prC).toArray 61 (0, 0))) (hn : l.length = n) : Ps w (.slice (some ⟨b, 0, none⟩) n n) l := by
  subst hn
  refine ⟨_, _, rfl, Nat.le_refl _, (fun h => by cases h), fun i hi => ⟨b, 0, rfl, ?_, ?_⟩⟩
  · rw [blk_cell h]
    have := (prC_at l i hi).1
    simpa using this
  · rw [blk_cell h]
    have := (prC_at l i hi).2
    simpa using this

theorem blk_new1 (w : World) (x y : Obj) : ((w.alloc x).alloc y).heap[w.heap.size + 1]? = some y := by
  have := blk_new (w.alloc x) y
  simpa using this


abbrev Sg := Int × ByteArray
def sgC (p : Sg) : List Value := [.int .i64 p.1, .string p.2]
theorem info28 : (Tryz.prog.info? 28).map (fun i => (i.zero, i.size, i.bytes)) = some (some (.agg #[.int .i64 0, .string ⟨#[]⟩]), 2, 24) := by kernel_rfl
theorem sgC_len (l : List Sg) : (l.flatMap sgC).length = l.length * 2 := by
  induction l with
  | nil => rfl
  | cons p l ih => simp [sgC] at ih ⊢; omega
theorem sgC_one (l : List Sg) : ∀ u ∈ l.flatMap sgC, u.oneCell' = true := by
  intro u hu
  simp only [List.mem_flatMap, sgC] at hu
  obtain ⟨p, _, hu⟩ := hu
  simp at hu
  rcases hu with rfl | rfl <;> rfl
theorem sgC_at (l : List Sg) (i : Nat) (h : i < l.length) : (l.flatMap sgC)[i * 2]? = some (.int .i64 (l.getD i default).1) ∧ (l.flatMap sgC)[i * 2 + 1]? = some (.string (l.getD i default).2) := by
  induction l generalizing i with
  | nil => simp at h
  | cons p l ih =>
    cases i with
    | zero => simp [sgC]
    | succ i =>
      have := ih i (by simpa using h)
      have e : (p :: l).flatMap sgC = sgC p ++ l.flatMap sgC := rfl
      rw [e]
      constructor
      · rw [List.getElem?_append_right (by simp [sgC]; omega)]
        have e2 : (i + 1) * 2 - (sgC p).length = i * 2 := by simp [sgC]; omega
        rw [e2]; simpa using this.1
      · rw [List.getElem?_append_right (by simp [sgC]; omega)]
        have e2 : (i + 1) * 2 + 1 - (sgC p).length = i * 2 + 1 := by simp [sgC]; omega
        rw [e2]; simpa using this.2

def OwnG (B : Nat) (w0 : World) (v : Value) (xs : List Sg) (w : World) : Prop :=
  w.ownsRow B 28 2 v xs.length (xs.flatMap sgC) ∧ Below B w0 w ∧ B ≤ w.heap.size

section
variable {B : Nat} {w0 : World} {v : Value} {w : World}
theorem OwnG.alloc {xs : List Sg} (h : OwnG B w0 v xs w) (o : Obj) : OwnG B w0 v xs (w.alloc o) :=
  ⟨h.1.alloc o, h.2.1.alloc h.2.2 o, by have := h.2.2; simp; omega⟩
theorem OwnG.drew {xs : List Sg} (h : OwnG B w0 v xs w) : OwnG B w0 v xs w.drew := ⟨h.1.drew, h.2.1.drew, h.2.2⟩
theorem OwnG.call {xs : List Sg} {w' : World} (h : OwnG B w0 v xs w) (hb : Below w.heap.size w w') : OwnG B w0 v xs w' :=
  ⟨owns_call h.1 hb, h.2.1.trans (hb.mono h.2.2), by have := hb.size; have := h.2.2; omega⟩
end
theorem empG (B : Nat) (w0 w : World) (hb : Below B w0 w) (hB : B ≤ w.heap.size) : OwnG B w0 (.slice (some ⟨w.heap.size, 0, none⟩) 0 0) [] (w.alloc (.cells #[] 28 (0, 0))) :=
  ⟨World.ownsRow_made w #[] 0 hB (by unfold maxLen; omega) (by simp), hb.alloc hB _, by simp; omega⟩
theorem nilG (B : Nat) (w0 w : World) (hb : Below B w0 w) (hB : B ≤ w.heap.size) : OwnG B w0 (.slice none 0 0) [] w := ⟨World.ownsRow_nil _ _ _ _, hb, hB⟩

theorem wp_appG {o : Oper} {a : Act} {K : Act → World → Prop} {Q : Exit → Act → World → Prop} (w : World) (s x : Operand)
    (ho : o.op = .call { callee := .builtin .append, args := #[s, x], argTypes := #[24, 24] })
    (B : Nat) (w0 : World) (v : Value) (xs : List Sg) (hs : a.eval s = v) (hown : OwnG B w0 v xs w) (hn : xs.length ≤ 1000000000)
    (ad : Addr) (m c : Nat) (ys : List Sg) (hx : a.eval x = .slice (some ad) m c) (hm : ys.length = m) (hm1 : m ≤ 10) (hb : ∀ j u, (ys.flatMap sgC)[j]? = some u → w.cell? (ad.add j) = some u)
    (h : ∀ v' w', OwnG B w0 v' (xs ++ ys) w' → w.grownBy w' v.ownBlock → v'.ownBlock = v.ownBlock ∨ v'.ownBlock = some w.heap.size → K (a.put o.dst v') w') : o.wp Tryz.prog a w K Q := by
  obtain ⟨i0, hi, hz0, hz1, hz2⟩ := info_parts info28
  have hr := run_append_own_at (P := Tryz.prog) w B 24 o.type 28 i0 (.agg #[.int .i64 0, .string ⟨#[]⟩]) 2 24 Tryz.underlying24 hi hz0 hz1 hz2 rfl (by omega) v xs.length _ hown.1 ad m c (ys.flatMap sgC) (by rw [sgC_len, hm]) hb (sgC_one ys) (by unfold maxLen; omega) (by omega) hown.2.2
  obtain ⟨v', w', hr, h2, h3, _, h5⟩ := hr
  unfold Oper.wp execOp
  simp only [ho, resolve, invoke, builtin, Sem.run_bind, Sem.run_pure, Result.andThen_ok, List.map_toArray, List.map_cons, List.map_nil, hs, hx, hr]
  refine h v' w' ⟨?_, hown.2.1.grown h3 hown.2.2 (fun k hk => (hown.1.lt k hk).1), by have := h3.size; have := hown.2.2; omega⟩ h3 h5
  rw [List.length_append, List.flatMap_append, hm]
  exact h2
theorem wpList_appG {ops : Array Oper} {rest : List Oper} {o : Oper} {a : Act} {Q : Exit → Act → World → Prop} (w : World) (hgd : o.guard = none) (s x : Operand)
    (ho : o.op = .call { callee := .builtin .append, args := #[s, x], argTypes := #[24, 24] })
    (B : Nat) (w0 : World) (v : Value) (xs : List Sg) (hs : a.eval s = v) (hown : OwnG B w0 v xs w) (hn : xs.length ≤ 1000000000)
    (b m c : Nat) (ys : List Sg) (hx : a.eval x = .slice (some ⟨b, 0, none⟩) m c) (hm : ys.length = m) (hm1 : m ≤ 10) (hb : w.heap[b]? = some (.cells (ys.flatMap sgC).toArray 28 (0, 0)))
    (h : ∀ v' w', OwnG B w0 v' (xs ++ ys) w' → w.grownBy w' v.ownBlock → v'.ownBlock = v.ownBlock ∨ v'.ownBlock = some w.heap.size → wpList Tryz.prog ops Q rest (a.put o.dst v') w') : wpList Tryz.prog ops Q (o :: rest) a w :=
  wpList_plain hgd fun _ hK => wp_appG w s x ho B w0 v xs hs hown hn ⟨b, 0, none⟩ m c ys hx hm hm1 (World.news_of_block hb) fun v' w' h2 h3 h4 => hK _ _ (h v' w' h2 h3 h4)

theorem wpList_mkG {ops : Array Oper} {rest : List Oper} {o : Oper} {a : Act} {Q : Exit → Act → World → Prop} (w : World) (hg : o.guard = none) (l c : Operand) (hop : o.op = Op.makeSlice 24 l c)
    (B : Nat) (w0 : World) (hb : Below B w0 w) (hB : B ≤ w.heap.size)
    (C : Int) (n : Nat) (hl : a.eval l = .int .i64 0) (hc : a.eval c = .int .i64 C) (hC : C = (n : Int)) (hn : n ≤ 1000000000)
    (hK : ∀ v w', OwnG B w0 v [] w' → Below w.heap.size w w' → wpList Tryz.prog ops Q rest (a.put o.dst v) w') : wpList Tryz.prog ops Q (o :: rest) a w := by
  obtain ⟨i0, hi, hz0, hz1, hz2⟩ := info_parts info28
  refine wpList_make_own w hg l c 24 hop B 28 i0 (.agg #[.int .i64 0, .string ⟨#[]⟩]) 2 Tryz.underlying24 hi hz0 hz1 .i64 .i64 C n hl hc hC (by rw [hz2]; omega) (by unfold maxLen; omega) hB ?_
  intro w' h1 h2
  exact hK _ w' ⟨h1, hb.grown h2 hB (fun k hk => by cases hk), by have := h2.size; omega⟩ ((Below.refl _ w).grown h2 (Nat.le_refl _) (fun k hk => by cases hk))

def Gs (w : World) (v : Value) (l : List Sg) : Prop :=
  ∃ A cap, v = .slice A l.length cap ∧ l.length ≤ cap ∧ (A = none → cap = 0) ∧ ∀ i, i < l.length → ∃ b o, A = some ⟨b, o, none⟩ ∧ w.cell? ⟨b, o + i * 2, none⟩ = some (.int .i64 (l.getD i default).1) ∧ w.cell? ⟨b, o + i * 2 + 1, none⟩ = some (.string (l.getD i default).2)
theorem Gs.call {w w' : World} {v : Value} {l : List Sg} (h : Gs w v l) (hb : Below w.heap.size w w') : Gs w' v l := by
  obtain ⟨A, cap, h1, h2, h3, h4⟩ := h
  refine ⟨A, cap, h1, h2, h3, fun i hi => ?_⟩
  obtain ⟨b, o, ha, hc, hd⟩ := h4 i hi
  exact ⟨b, o, ha, by rw [hb.cell (World.block_lt_of_cell? w _ hc)]; exact hc, by rw [hb.cell (World.block_lt_of_cell? w _ hd)]; exact hd⟩
theorem OwnG.gs {B : Nat} {w0 : World} {v : Value} {xs : List Sg} {w : World} (h : OwnG B w0 v xs w) : Gs w v xs := by
  have hc := @World.ownsRow.cells _ _ _ _ _ _ _ h.1
  obtain ⟨hl, ⟨rfl, h1⟩ | ⟨g, cap, cur, rfl, _, _, h4, _⟩⟩ := h.1
  · obtain rfl : xs = [] := List.eq_nil_of_length_eq_zero h1
    exact ⟨none, 0, rfl, by simp, fun _ => rfl, fun i hi => by simp at hi⟩
  · refine ⟨some ⟨g, 0, none⟩, cap, rfl, h4, (fun h => by cases h), fun i hi => ⟨g, 0, rfl, ?_, ?_⟩⟩
    · have := hc rfl (i * 2) _ (sgC_at xs i hi).1
      rw [add_lit'] at this
      exact this
    · have := hc rfl (i * 2 + 1) _ (sgC_at xs i hi).2
      rw [add_lit', ← Nat.add_assoc] at this
      exact this
theorem gs_nil (w : World) : Gs w (.slice none 0 0) [] := ⟨none, 0, rfl, by simp, fun _ => rfl, fun i hi => by simp at hi⟩
theorem Gs.shape {w : World} {v : Value} {l : List Sg} (h : Gs w v l) : ∃ A n c, v = .slice A n c := by
  obtain ⟨A, cap, e, _⟩ := h
  exact ⟨_, _, _, e⟩

theorem gs_new {w : World} {b : Nat} {l : List Sg} {n : Nat} (h : w.heap[b]? = some (.cells (l.flatMap sgC).toArray 28 (0, 0))) (hn : l.length = n) : Gs w (.slice (some ⟨b, 0, none⟩) n n) l := by
  subst hn
  refine ⟨_, _, rfl, Nat.le_refl _, (fun h => by cases h), fun i hi => ⟨b, 0, rfl, ?_, ?_⟩⟩
  · rw [blk_cell h]
    have := (sgC_at l i hi).1
    simpa using this
  · rw [blk_cell h]
    have := (sgC_at l i hi).2
    simpa using this

end Go.Proofs.YthigandmemifoaaGreatDoor

namespace Go.Proofs.YthigandmemifoaaGreatDoor
open Go.RowKit Go.PlainAid
set_option maxRecDepth 100000

theorem nan24 (x : Int) (w : World) : Calls Tryz.prog 110 #[.int .i64 x] w fun e w' => e = .returned (.bool false) ∧ w' = w := by
  go_enter Tryz.func110, Tryz.ntmps110
  go_wp2
  go_ret
  exact ⟨by simp, rfl⟩
theorem nan28 (x : ByteArray) (w : World) : Calls Tryz.prog 132 #[.string x] w fun e w' => e = .returned (.bool false) ∧ w' = w := by
  go_enter Tryz.func132, Tryz.ntmps132
  go_wp2
  go_ret
  exact ⟨by simp, rfl⟩
set_option maxHeartbeats 1000000 in
theorem cmpI18 (x y : Int) (w : World) : Calls Tryz.prog 98 #[.int .i64 x, .int .i64 y] w fun e w' => e = .returned (.int .i64 (cI x y)) ∧ w' = w := by
  go_enter Tryz.func98, Tryz.ntmps98
  go_wp2_with (go_at_call 110; refine (nan24 _ _).mono ?_; rintro e w' ⟨rfl, hw⟩; rw [hw])
  all_goals (go_ret; refine ⟨?_, rfl⟩; unfold cI Lib.compareInt; (repeat' split) <;> first | rfl | (exfalso; omega))
theorem less_is (x y : ByteArray) : Op.bytesLess x.toList y.toList = decide (x.data.toList < y.data.toList) := by
  rw [bytesLess_eq, Lib.toList_data, Lib.toList_data]
theorem cT_cases (x y : ByteArray) : (Op.bytesLess x.toList y.toList = true ∧ cT x y = -1) ∨ (Op.bytesLess x.toList y.toList = false ∧ (x.toList == y.toList) = true ∧ cT x y = 0) ∨ (Op.bytesLess x.toList y.toList = false ∧ (x.toList == y.toList) = false ∧ cT x y = 1) := by
  have e : (x.toList == y.toList) = decide (x.data.toList = y.data.toList) := by
    rw [Lib.toList_data, Lib.toList_data, Bool.eq_iff_iff]
    simp
  rw [less_is, e]
  rcases cL_cases x.data.toList y.data.toList with ⟨h, e⟩ | ⟨h, e⟩ | ⟨h, e⟩
  · exact Or.inl ⟨decide_eq_true h, e⟩
  · right; left
    refine ⟨decide_eq_false ?_, decide_eq_true h, e⟩
    rw [h]; exact List.lt_irrefl _
  · right; right
    refine ⟨decide_eq_false (fun h' => List.lt_irrefl _ (List.lt_trans h h')), decide_eq_false (fun h' => ?_), e⟩
    rw [h'] at h
    exact List.lt_irrefl _ h
set_option maxHeartbeats 1000000 in
theorem cmpT25 (x y : ByteArray) (w : World) : Calls Tryz.prog 124 #[.string x, .string y] w fun e w' => e = .returned (.int .i64 (cT x y)) ∧ w' = w := by
  rcases cT_cases x y with ⟨h1, h2⟩ | ⟨h1, h0, h2⟩ | ⟨h1, h0, h2⟩
  all_goals
    rw [h2]
    clear h2
    go_enter Tryz.func124, Tryz.ntmps124
    go_wp2_with (go_at_call 132; refine (nan28 _ _).mono ?_; rintro e w' ⟨rfl, hw⟩; rw [hw])
    go_ret
    exact ⟨rfl, rfl⟩

theorem drN {w wr : World} (h : ∃ q, wr = w.drewN q) (n : Nat) : ∃ q, wr.drewN n = w.drewN q := by
  obtain ⟨q, rfl⟩ := h
  exact ⟨q + n, World.drewN_drewN _ _ _⟩
theorem drC {w wr : World} (h : ∃ q, wr = w.drewN q) (p : Addr) : wr.cell? p = w.cell? p := by
  obtain ⟨q, rfl⟩ := h
  rfl

theorem drT {a b c : World} (h : ∃ q, b = a.drewN q) (k : ∃ q, c = b.drewN q) : ∃ q, c = a.drewN q := by
  obtain ⟨n, rfl⟩ := k
  exact drN h n
theorem Gs.drN {w w' : World} {v : Value} {l : List Sg} (h : Gs w v l) (hw : ∃ q, w' = w.drewN q) : Gs w' v l := by
  obtain ⟨q, rfl⟩ := hw
  exact h
theorem drB {w w' : World} (h : ∃ q, w' = w.drewN q) (B : Nat) : Below B w w' := by
  obtain ⟨q, rfl⟩ := h
  exact ⟨rfl, rfl, rfl, Nat.le_refl _, fun _ _ => rfl⟩

set_option maxHeartbeats 1600000 in
theorem kinds17 (v1 v2 : Value) (a b : List Sg) (w : World) (h1 : Gs w v1 a) (h2 : Gs w v2 b) (hz : a.length ≤ 1000000000) (_ : b.length ≤ 1000000000) :
    Calls Tryz.prog 108 #[v1, v2] w fun e w' => e = .returned (.int .i64 (pK a b)) ∧ ∃ q, w' = w.drewN q := by
  rw [← pKf_zero]
  obtain ⟨A, cap, rfl, _, _, hc⟩ := h1
  obtain ⟨A2, cap2, rfl, _, _, hc2⟩ := h2
  have HC := Lib.hid hc
  have HC2 := Lib.hid hc2
  clear hc hc2
  obtain ⟨m, hm⟩ : ∃ m : Nat, m = min a.length b.length := ⟨_, rfl⟩
  have hmI : min (a.length : Int) (b.length : Int) = (m : Int) := by omega
  have hm1 : m ≤ a.length := by omega
  have hm2 : m ≤ b.length := by omega
  have HM : Hid (a.length ≤ m ∨ b.length ≤ m) := by show _ ∨ _; omega
  have HV : Hid (pKf a b 0 = pKf a b 0) := rfl
  generalize hV : pKf a b 0 = V at HV ⊢
  have HV0 := Lib.hid hV
  clear hV HV hm
  go_enter Tryz.func108, Tryz.ntmps108
  go_wp2_with fail
  go_loopw [12] (fun i wr => ∃ (k : Nat), k ≤ m ∧ i = .int .i64 k ∧ Hid (pKf a b k = V) ∧ Hid (∃ q, wr = w.drewN q)) (fun i _ => m - (intOf i).toNat)
  case atStart => exact ⟨0, Nat.zero_le _, rfl, HV0.out, 0, rfl⟩
  case round =>
    obtain ⟨k, hk, rfl, ht, hw⟩ := hrel
    by_cases hlt : k < m
    · have d0 : (k : Int) < (m : Int) := by omega
      have d1 : (k : Int) < (a.length : Int) := by omega
      have d2 : (k : Int) < (b.length : Int) := by omega
      have HX := Lib.hid (ht.out.symm.trans (pKf_next (a := a) (b := b) (k := k) (by omega) (by omega)))
      obtain ⟨x, o, rfl, hcell, _⟩ := HC.out k (by omega)
      obtain ⟨x2, o2, rfl, hcell2, _⟩ := HC2.out k (by omega)
      have g1 : wr.cell? ⟨x, o + k * 2, none⟩ = some (.int .i64 (a.getD k default).1) := by obtain ⟨q, rfl⟩ := hw.out; simpa using hcell
      have g2 : wr.cell? ⟨x2, o2 + k * 2, none⟩ = some (.int .i64 (b.getD k default).1) := by obtain ⟨q, rfl⟩ := hw.out; simpa using hcell2
      clear hcell hcell2
      generalize (a.getD k default).1 = s at *
      generalize (b.getD k default).1 = t at *
      have hc := cmpI18 s t
      generalize cI s t = r at *
      by_cases hr : r = 0
      · have HN : Hid (pKf a b (k + 1) = V) := by
          have := HX.out
          rw [if_neg (by simpa using hr)] at this
          exact this.symm
        have q0 : (r == 0) = true := by simp [hr]
        clear hr HX
        go_wp2_with fail
        go_quiet (first | (go_at_call 98; exact Calls.quiet_of_same (hc _)))
        go_wp2_with fail
        go_roundw
        case rel => exact ⟨k + 1, by omega, by go_num, HN.out, drN hw.out _⟩
        case measure => simp [intOf]; omega
      · have HN : Hid (V = r) := by
          have := HX.out
          rw [if_pos hr] at this
          exact this
        have q0 : (r == 0) = false := by simp [hr]
        clear hr HX
        go_wp2_with fail
        go_quiet (first | (go_at_call 98; exact Calls.quiet_of_same (hc _)))
        go_wp2
        rw [HN.out]
        go_ret
        exact ⟨rfl, drN hw.out _⟩
    · obtain rfl : k = m := by omega
      have HN : Hid (V = 0) := ht.out.symm.trans (pKf_end HM.out)
      go_wp2
      rw [HN.out]
      go_ret
      exact ⟨rfl, hw.out⟩
set_option maxHeartbeats 1600000 in
theorem texts19 (v1 v2 : Value) (a b : List Sg) (w : World) (h1 : Gs w v1 a) (h2 : Gs w v2 b) (hz : a.length ≤ 1000000000) (_ : b.length ≤ 1000000000) :
    Calls Tryz.prog 109 #[v1, v2] w fun e w' => e = .returned (.int .i64 (pT a b)) ∧ ∃ q, w' = w.drewN q := by
  rw [← pTf_zero]
  obtain ⟨A, cap, rfl, _, _, hc⟩ := h1
  obtain ⟨A2, cap2, rfl, _, _, hc2⟩ := h2
  have HC := Lib.hid hc
  have HC2 := Lib.hid hc2
  clear hc hc2
  obtain ⟨m, hm⟩ : ∃ m : Nat, m = min a.length b.length := ⟨_, rfl⟩
  have hmI : min (a.length : Int) (b.length : Int) = (m : Int) := by omega
  have hm1 : m ≤ a.length := by omega
  have hm2 : m ≤ b.length := by omega
  have HM : Hid (a.length ≤ m ∨ b.length ≤ m) := by show _ ∨ _; omega
  have HV : Hid (pTf a b 0 = pTf a b 0) := rfl
  generalize hV : pTf a b 0 = V at HV ⊢
  have HV0 := Lib.hid hV
  clear hV HV hm
  go_enter Tryz.func109, Tryz.ntmps109
  go_wp2_with fail
  go_loopw [12] (fun i wr => ∃ (k : Nat), k ≤ m ∧ i = .int .i64 k ∧ Hid (pTf a b k = V) ∧ Hid (∃ q, wr = w.drewN q)) (fun i _ => m - (intOf i).toNat)
  case atStart => exact ⟨0, Nat.zero_le _, rfl, HV0.out, 0, rfl⟩
  case round =>
    obtain ⟨k, hk, rfl, ht, hw⟩ := hrel
    by_cases hlt : k < m
    · have d0 : (k : Int) < (m : Int) := by omega
      have d1 : (k : Int) < (a.length : Int) := by omega
      have d2 : (k : Int) < (b.length : Int) := by omega
      have HX := Lib.hid (ht.out.symm.trans (pTf_next (a := a) (b := b) (k := k) (by omega) (by omega)))
      obtain ⟨x, o, rfl, _, hcell⟩ := HC.out k (by omega)
      obtain ⟨x2, o2, rfl, _, hcell2⟩ := HC2.out k (by omega)
      have g1 : wr.cell? ⟨x, o + k * 2 + 1, none⟩ = some (.string (a.getD k default).2) := by obtain ⟨q, rfl⟩ := hw.out; simpa using hcell
      have g2 : wr.cell? ⟨x2, o2 + k * 2 + 1, none⟩ = some (.string (b.getD k default).2) := by obtain ⟨q, rfl⟩ := hw.out; simpa using hcell2
      clear hcell hcell2
      generalize (a.getD k default).2 = s at *
      generalize (b.getD k default).2 = t at *
      have hc := cmpT25 s t
      generalize cT s t = r at *
      by_cases hr : r = 0
      · have HN : Hid (pTf a b (k + 1) = V) := by
          have := HX.out
          rw [if_neg (by simpa using hr)] at this
          exact this.symm
        have q0 : (r == 0) = true := by simp [hr]
        clear hr HX
        go_wp2_with fail
        go_quiet (first | (go_at_call 124; exact Calls.quiet_of_same (hc _)))
        go_wp2_with fail
        go_roundw
        case rel => exact ⟨k + 1, by omega, by go_num, HN.out, drN hw.out _⟩
        case measure => simp [intOf]; omega
      · have HN : Hid (V = r) := by
          have := HX.out
          rw [if_pos hr] at this
          exact this
        have q0 : (r == 0) = false := by simp [hr]
        clear hr HX
        go_wp2_with fail
        go_quiet (first | (go_at_call 124; exact Calls.quiet_of_same (hc _)))
        go_wp2
        rw [HN.out]
        go_ret
        exact ⟨rfl, drN hw.out _⟩
    · obtain rfl : k = m := by omega
      have HN : Hid (V = 0) := ht.out.symm.trans (pTf_end HM.out)
      go_wp2
      rw [HN.out]
      go_ret
      exact ⟨rfl, hw.out⟩

set_option maxHeartbeats 1600000 in
theorem compare8 (v1 v2 : Value) (a b : List Sg) (w : World) (h1 : Gs w v1 a) (h2 : Gs w v2 b) (hz : a.length ≤ 1000000000) (hz2 : b.length ≤ 1000000000) :
    Calls Tryz.prog 97 #[v1, v2] w fun e w' => e = .returned (.int .i64 (cP a b)) ∧ ∃ q, w' = w.drewN q := by
  have hk := kinds17 v1 v2 a b w h1 h2 hz hz2
  have ht := fun w' hw => texts19 v1 v2 a b w' (Gs.drN h1 hw) (Gs.drN h2 hw) hz hz2
  have HT := Lib.hid ht
  clear ht
  have hc := cmpI18 (b.length : Int) (a.length : Int)
  have HP := Lib.hid (cP_is a b)
  generalize cP a b = V at *
  obtain ⟨A, cap, rfl, _, _, _⟩ := h1
  obtain ⟨A2, cap2, rfl, _, _, _⟩ := h2
  generalize pK a b = x1 at *
  generalize cI (b.length : Int) (a.length : Int) = x2 at *
  generalize pT a b = x3 at *
  by_cases e1 : x1 = 0
  · have q1 : (x1 == 0) = true := by simp [e1]
    by_cases e2 : x2 = 0
    · have q2 : (x2 == 0) = true := by simp [e2]
      have HN : Hid (V = x3) := by have := HP.out; simp [e1, e2] at this; exact this
      clear e1 e2 HP
      go_enter Tryz.func97, Tryz.ntmps97
      go_wp2_with (first | (go_at_call 108; refine hk.mono ?_; rintro e w' ⟨rfl, hw⟩; have HW := Lib.hid hw; clear hw) | (go_at_call 98; refine (hc _).mono ?_; rintro e w2 ⟨rfl, hw2⟩; subst hw2) | (go_at_call 109; refine (HT.out _ HW.out).mono ?_; rintro e w3 ⟨rfl, hw3⟩; have HW3 := Lib.hid hw3; clear hw3))
      rw [HN.out]
      go_ret
      exact ⟨rfl, drT HW.out HW3.out⟩
    · have q2 : (x2 == 0) = false := by simp [e2]
      have HN : Hid (V = x2) := by have := HP.out; simp [e1, e2] at this; exact this
      clear e1 e2 HP
      go_enter Tryz.func97, Tryz.ntmps97
      go_wp2_with (first | (go_at_call 108; refine hk.mono ?_; rintro e w' ⟨rfl, hw⟩; have HW := Lib.hid hw; clear hw) | (go_at_call 98; refine (hc _).mono ?_; rintro e w2 ⟨rfl, hw2⟩; subst hw2))
      rw [HN.out]
      go_ret
      exact ⟨rfl, HW.out⟩
  · have q1 : (x1 == 0) = false := by simp [e1]
    have HN : Hid (V = x1) := by have := HP.out; simp [e1] at this; exact this
    clear e1 HP
    go_enter Tryz.func97, Tryz.ntmps97
    go_wp2_with (first | (go_at_call 108; refine hk.mono ?_; rintro e w' ⟨rfl, hw⟩; have HW := Lib.hid hw; clear hw))
    rw [HN.out]
    go_ret
    exact ⟨rfl, HW.out⟩
end Go.Proofs.YthigandmemifoaaGreatDoor

namespace Go.Proofs.YthigandmemifoaaGreatDoor
open Go.RowKit Go.PlainAid
set_option maxRecDepth 100000

/-- the slice holds these patterns -/
def Gss (w : World) (v : Value) (ls : List (List Sg)) : Prop :=
  ∃ A cap, v = .slice A ls.length cap ∧ ls.length ≤ cap ∧ (A = none → cap = 0) ∧ ∀ i, i < ls.length → ∃ b o u, A = some ⟨b, o, none⟩ ∧ w.cell? ⟨b, o + i, none⟩ = some u ∧ Gs w u (ls.getD i default)
theorem Gss.call {w w' : World} {v : Value} {ls : List (List Sg)} (h : Gss w v ls) (hb : Below w.heap.size w w') : Gss w' v ls := by
  obtain ⟨A, cap, h1, h2, h3, h4⟩ := h
  refine ⟨A, cap, h1, h2, h3, fun i hi => ?_⟩
  obtain ⟨b, o, u, ha, hc, hd⟩ := h4 i hi
  exact ⟨b, o, u, ha, by rw [hb.cell (World.block_lt_of_cell? w _ hc)]; exact hc, hd.call hb⟩
theorem Gss.drN {w w' : World} {v : Value} {ls : List (List Sg)} (h : Gss w v ls) (hw : ∃ q, w' = w.drewN q) : Gss w' v ls := by
  obtain ⟨q, rfl⟩ := hw
  exact h
theorem gss_nil (w : World) : Gss w (.slice none 0 0) [] := ⟨none, 0, rfl, by simp, fun _ => rfl, fun i hi => by simp at hi⟩
theorem Gss.shape {w : World} {v : Value} {ls : List (List Sg)} (h : Gss w v ls) : ∃ A n c, v = .slice A n c := by
  obtain ⟨A, cap, e, _⟩ := h
  exact ⟨_, _, _, e⟩
/-- all are of a length that a slice may have -/
def Few (ls : List (List Sg)) : Prop := ∀ l ∈ ls, l.length ≤ 1000000000
theorem Few.at {ls : List (List Sg)} (h : Few ls) (i : Nat) : (ls.getD i default).length ≤ 1000000000 := by
  by_cases hi : i < ls.length
  · exact h _ (getD_mem ls i hi)
  · have : ls.getD i default = [] := by simp [List.getD, List.getElem?_eq_none (show ls.length ≤ i by omega)]; rfl
    rw [this]
    simp

end Go.Proofs.YthigandmemifoaaGreatDoor
