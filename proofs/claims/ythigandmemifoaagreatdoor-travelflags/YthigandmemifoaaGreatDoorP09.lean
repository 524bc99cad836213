/-
  Put together: Srd, Ints, Chn, Ful.
-/
import Derived.Test.YthigandmemifoaaGreatDoorP08
import Derived.Deep.OwnRows
import Derived.Deep.CutBlock
import Derived.Deep.DeepCutAuto
import Derived.Test.YthigandmemifoaaGreatDoorP06
import Derived.Shelf.Slices.Reverse
import Derived.Sort.OwnSortedInts
namespace Go.Proofs.YthigandmemifoaaGreatDoor
open Go.RowKit Go.PlainAid
set_option maxRecDepth 100000

theorem info3 : (Tryz.prog.info? 3).map (fun i => (i.zero, i.size, i.bytes)) = some (some (.int .i64 0), 1, 8) := by kernel_rfl

/-- the slice holds these numbers -/
def Ni (w : World) (v : Value) (ps : List Nat) : Prop :=
  ∃ A cap, v = .slice A ps.length cap ∧ ps.length ≤ cap ∧ (A = none → cap = 0) ∧ ∀ i, i < ps.length → ∃ b o, A = some ⟨b, o, none⟩ ∧ w.cell? ⟨b, o + i, none⟩ = some (.int .i64 (ps.getD i 0 : Nat))
theorem Ni.call {w w' : World} {v : Value} {ps : List Nat} (h : Ni w v ps) (hb : Below w.heap.size w w') : Ni w' v ps := by
  obtain ⟨A, cap, h1, h2, h3, h4⟩ := h
  refine ⟨A, cap, h1, h2, h3, fun i hi => ?_⟩
  obtain ⟨b, o, ha, hc⟩ := h4 i hi
  exact ⟨b, o, ha, by rw [hb.cell (World.block_lt_of_cell? w _ hc)]; exact hc⟩
theorem Ni.shape {w : World} {v : Value} {ps : List Nat} (h : Ni w v ps) : ∃ A n c, v = .slice A n c := by
  obtain ⟨A, cap, e, _⟩ := h
  exact ⟨_, _, _, e⟩
theorem Places.len {ls : List (List Sg)} {ps : List Nat} (h : Places ls ps) : ps.length = ls.length := by
  have := h.1.length_eq
  simpa using this

theorem box_len {w : World} {v : Value} {ls : List (List Sg)} (h : Gss w v ls) : ∃ A c, v = .slice A ls.length c := by
  obtain ⟨A, cap, e, _⟩ := h
  exact ⟨_, _, e⟩

set_option maxHeartbeats 3200000 in
theorem sorted11 (v : Value) (ls : List (List Sg)) (w : World) (hg : Gss w v ls) (h12 : ls.length ≤ 1000) (hf : Few ls) :
    Calls Tryz.prog 81 #[v] w fun e w' => ∃ u ps, e = .returned u ∧ Ni w' u ps ∧ Places ls ps ∧ Below w.heap.size w w' ∧ ∀ b o n c, u = .slice (some ⟨b, o, none⟩) n c → w.heap.size ≤ b := by
  obtain ⟨A, c, rfl⟩ := box_len hg
  have HG := Lib.hid hg
  have HF := Lib.hid hf
  clear hg hf
  obtain ⟨n, hn⟩ : ∃ n, n = ls.length := ⟨_, rfl⟩
  rw [← hn] at h12 ⊢
  have HNl := Lib.hid hn
  clear hn
  rw [← HNl.out] at HG
  have HX := Lib.hid (blk_new w (.cells #[.slice A n c] 103 (0, 0)))
  have HB1 := Lib.hid ((Below.refl w.heap.size w).alloc (Nat.le_refl _) (.cells #[.slice A n c] 103 (0, 0)))
  have HG1 := Lib.hid (HG.out.call HB1.out)
  have x0 : (w.alloc (.cells #[.slice A n c] 103 (0, 0))).cell? ⟨w.heap.size, 0, none⟩ = some (.slice A n c) := by rw [blk_cell HX.out]; rfl
  have hsz : (w.alloc (.cells #[.slice A n c] 103 (0, 0))).heap.size = w.heap.size + 1 := by simp
  have HX0 := Lib.hid x0
  obtain ⟨i0, hi, hz0, hz1, hz2⟩ := info_parts info3
  have hby : i0.bytes * n ≤ 281474976710656 := by rw [hz2]; omega
  go_enter Tryz.func81, Tryz.ntmps81
  go_upto_region 2 with (at_make; refine wpList_make_row _ rfl _ _ 34 rfl 3 i0 (.int .i64 0) Tryz.underlying34 hi hz0 hz1 rfl .i64 .i64 n rfl rfl hby (by omega) ?_)
  clear hi hz0 hz1 hz2 hby i0
  have R1 := Lib.hid (World.rowIs_made (w.alloc (.cells #[.slice A n c] 103 (0, 0))) (.int .i64 0) n 3)
  have HB2 := Lib.hid ((Below.refl (w.alloc (.cells #[.slice A n c] 103 (0, 0))).heap.size (w.alloc (.cells #[.slice A n c] 103 (0, 0)))).alloc (Nat.le_refl _) (.cells (madeCells #[.int .i64 0] n) 3 (0, 0)))
  rw [hsz] at R1 HB2
  generalize (w.alloc (.cells #[.slice A n c] 103 (0, 0))).alloc (.cells (madeCells #[.int .i64 0] n) 3 (0, 0)) = w2 at *
  generalize w.alloc (.cells #[.slice A n c] 103 (0, 0)) = w1 at *
  have HS := Lib.hid hsz
  clear x0 hsz
  generalize hNN : w.heap.size + 1 = N at *
  have HNN := Lib.hid hNN
  clear hNN
  go_wp2_with fail
  go_loopw [10] (fun i wr => ∃ (k : Nat), k ≤ n ∧ i = .int .i64 k ∧ wr.rowIs N 3 n (fun j => if j < k then .int .i64 j else .int .i64 0) ∧ Below N w1 wr) (fun i _ => n - (intOf i).toNat)
  case atStart => exact ⟨0, Nat.zero_le _, rfl, R1.out.congr (fun i hi => by simp), HB2.out⟩
  case round =>
    obtain ⟨k, hk, rfl, hrow, hbw⟩ := hrel
    have HR := Lib.hid hrow
    have HBW := Lib.hid hbw
    clear hrow hbw
    by_cases hlt : k < n
    · have d0 : (k : Int) < (n : Int) := by omega
      have c1 := HR.out.cell hlt
      have c2 := HR.out.frozen k
      go_wp2_with fail
      go_roundw
      case rel =>
        refine ⟨k + 1, by omega, by go_num, (HR.out.set k _).congr (fun j hj => ?_), HBW.out.setCell (Nat.le_refl _) _⟩
        by_cases e1 : j = k
        · subst e1
          simp
        · by_cases e2 : j < k
          · simp [e1, e2, show j < k + 1 by omega]
          · simp [e1, e2, show ¬ j < k + 1 by omega]
      case measure => simp [intOf]; omega
    · obtain rfl : k = n := by omega
      have HBw : Hid (Below w1.heap.size w1 wr) := by rw [HS.out]; exact HBW.out
      by_cases h0 : k = 0
      · subst h0
        go_wp2_with (first | (go_at_call 95; refine (sort20_none _ _ _ _).mono ?_; rintro e w' ⟨rfl, hw⟩; subst hw))
        go_ret
        have e0 : ls = [] := List.eq_nil_of_length_eq_zero HNl.out.symm
        refine ⟨_, [], rfl, ⟨_, 0, rfl, Nat.le_refl _, (fun _ => rfl), fun i hi => by simp at hi⟩, ?_, HB1.out.trans (HBw.out.mono HB1.out.size), fun b o n c e => by cases e; have := HNN.out; omega⟩
        rw [e0]
        exact ⟨by simp, List.Pairwise.nil⟩
      · have hS := sort20 ls k N k w.heap.size (.slice A k c) w1 wr (by omega) HNl.out.symm h12 HX0.out HG1.out HF.out HBw.out (by rw [HS.out]; exact Nat.le_refl _) (fun j hj => ⟨by rw [HR.out.cell hj]; simp [hj], HR.out.frozen j⟩)
        go_wp2_with (first | (go_at_call 95; refine hS.mono ?_; rintro e w' ⟨rfl, hps⟩; have HPS := Lib.hid hps; clear hps))
        go_ret
        obtain ⟨ps, hp, hcell, hbb⟩ := HPS.out
        have hl := hp.len
        rw [← HNl.out] at hl
        refine ⟨_, ps, rfl, ⟨_, k, by rw [hl]; rfl, by omega, (fun e => by cases e), fun i hi => ⟨N, 0, rfl, ?_⟩⟩, hp, HB1.out.trans (hbb.mono HB1.out.size), fun b o n c e => by cases e; have := HNN.out; omega⟩
        rw [Nat.zero_add]
        exact hcell i (by omega)
end Go.Proofs.YthigandmemifoaaGreatDoor

namespace Go.Proofs.YthigandmemifoaaGreatDoor
open Go.RowKit Go.PlainAid
set_option maxRecDepth 100000

def niC (ns : List Nat) : List Value := ns.map (fun x : Nat => Value.int .i64 (x : Int))
def OwnI (B : Nat) (w0 : World) (v : Value) (ns : List Nat) (w : World) : Prop :=
  w.ownsRow B 3 1 v ns.length (niC ns) ∧ Below B w0 w ∧ B ≤ w.heap.size
section
variable {B : Nat} {w0 : World} {v : Value} {w : World} {ns : List Nat}
theorem OwnI.alloc (h : OwnI B w0 v ns w) (o : Obj) : OwnI B w0 v ns (w.alloc o) := ⟨h.1.alloc o, h.2.1.alloc h.2.2 o, by have := h.2.2; simp; omega⟩
theorem OwnI.call {w' : World} (h : OwnI B w0 v ns w) (hb : Below w.heap.size w w') : OwnI B w0 v ns w' :=
  ⟨owns_call h.1 hb, h.2.1.trans (hb.mono h.2.2), by have := hb.size; have := h.2.2; omega⟩
theorem nilI (B : Nat) (w0 w : World) (hb : Below B w0 w) (hB : B ≤ w.heap.size) : OwnI B w0 (.slice none 0 0) [] w := ⟨World.ownsRow_nil _ _ _ _, hb, hB⟩
theorem OwnI.ni (h : OwnI B w0 v ns w) : Ni w v ns := by
  have hc := @World.ownsRow.cells _ _ _ _ _ _ _ h.1
  obtain ⟨hl, ⟨rfl, h1⟩ | ⟨g, cap, cur, rfl, _, _, h4, _⟩⟩ := h.1
  · obtain rfl : ns = [] := List.eq_nil_of_length_eq_zero h1
    exact ⟨none, 0, rfl, by simp, fun _ => rfl, fun i hi => by simp at hi⟩
  · refine ⟨some ⟨g, 0, none⟩, cap, rfl, h4, (fun h => by cases h), fun i hi => ⟨g, 0, rfl, ?_⟩⟩
    have := hc rfl i (.int .i64 (ns.getD i 0 : Nat)) (by simp [niC, List.getD, hi])
    rw [add_lit'] at this
    exact this
theorem wpList_appI {ops : Array Oper} {rest : List Oper} {o : Oper} {a : Act} {Q : Exit → Act → World → Prop} (hgd : o.guard = none) (s x : Operand)
    (ho : o.op = .call { callee := .builtin .append, args := #[s, x], argTypes := #[34, 34] })
    (hs : a.eval s = v) (hown : OwnI B w0 v ns w) (hn : ns.length ≤ 1000)
    (b y : Nat) (hx : a.eval x = .slice (some ⟨b, 0, none⟩) 1 1) (hb : w.heap[b]? = some (.cells #[.int .i64 (y : Int)] 3 (0, 0)))
    (h : ∀ v' w', OwnI B w0 v' (ns ++ [y]) w' → w.grownBy w' v.ownBlock → wpList Tryz.prog ops Q rest (a.put o.dst v') w') : wpList Tryz.prog ops Q (o :: rest) a w := by
  refine wpList_plain hgd fun K hK => ?_
  obtain ⟨i0, hi, hz0, hz1, hz2⟩ := info_parts info3
  have hr := run_append_own_at (P := Tryz.prog) w B 34 o.type 3 i0 (.int .i64 0) 1 8 Tryz.underlying34 hi hz0 hz1 hz2 rfl (by omega) v ns.length _ hown.1 ⟨b, 0, none⟩ 1 1 [.int .i64 (y : Int)] rfl (World.news_of_block hb) (by intro u hu; simp at hu; subst hu; rfl) (by unfold maxLen; omega) (by omega) hown.2.2
  obtain ⟨v', w', hr, h2, h3, _, h5⟩ := hr
  unfold Oper.wp execOp
  simp only [ho, resolve, invoke, builtin, Sem.run_bind, Sem.run_pure, Result.andThen_ok, List.map_toArray, List.map_cons, List.map_nil, hs, hx, hr]
  refine hK _ _ (h v' w' ⟨?_, hown.2.1.grown h3 hown.2.2 (fun k hk => (hown.1.lt k hk).1), by have := h3.size; have := hown.2.2; omega⟩ h3)
  have e : niC (ns ++ [y]) = niC ns ++ [.int .i64 (y : Int)] := by simp [niC]
  rw [List.length_append, e]
  exact h2
end

theorem nat_at {a b : List Nat} {k : Nat} (h : a.take k = b.take k) (h1 : k < a.length) (h2 : k < b.length) (he : a.getD k 0 = b.getD k 0) : a.take (k + 1) = b.take (k + 1) := by
  rw [List.take_add_one, List.take_add_one, h]
  simp only [List.getD, List.getElem?_eq_getElem h1, List.getElem?_eq_getElem h2, Option.getD_some] at he
  rw [List.getElem?_eq_getElem h1, List.getElem?_eq_getElem h2, he]

set_option maxHeartbeats 1600000 in
theorem sameI16 (v1 v2 : Value) (a b : List Nat) (w : World) (h1 : Ni w v1 a) (h2 : Ni w v2 b) (hz : a.length ≤ 1000) (_ : b.length ≤ 1000) :
    Calls Tryz.prog 35 #[v1, v2] w fun e w' => e = .returned (.bool (decide (a = b))) ∧ ∃ q, w' = w.drewN q := by
  obtain ⟨A, cap, rfl, _, _, hc⟩ := h1
  obtain ⟨A2, cap2, rfl, _, _, hc2⟩ := h2
  have HC := Lib.hid hc
  have HC2 := Lib.hid hc2
  clear hc hc2
  by_cases hl : a.length = b.length
  · have HL := Lib.hid hl
    have c0 : ((a.length : Int) == (b.length : Int)) = true := by simp; omega
    clear hl
    go_enter Tryz.func35, Tryz.ntmps35
    go_wp2_with fail
    (try rw [c0])
    clear c0
    go_loopw [5] (fun i wr => ∃ (k : Nat), k ≤ a.length ∧ i = .int .i64 k ∧ Hid (a.take k = b.take k) ∧ Hid (∃ q, wr = w.drewN q)) (fun i _ => a.length - (intOf i).toNat)
    case atStart => exact ⟨0, Nat.zero_le _, rfl, rfl, 0, rfl⟩
    case round =>
      obtain ⟨k, hk, rfl, HT, HW⟩ := hrel
      have hl2 := HL.out
      by_cases hlt : k < a.length
      · have d0 : (k : Int) < (a.length : Int) := by omega
        have d1 : (k : Int) < (b.length : Int) := by omega
        have HX := Lib.hid (nat_at HT.out hlt (by omega))
        have HY : Hid (¬ a.getD k 0 = b.getD k 0 → ¬ a = b) := fun h e => h (by rw [e])
        obtain ⟨x, o, rfl, hcell⟩ := HC.out k hlt
        obtain ⟨x2, o2, rfl, hcell2⟩ := HC2.out k (by omega)
        have g1 : wr.cell? ⟨x, o + k, none⟩ = some (.int .i64 (a.getD k 0 : Nat)) := by rw [drC HW.out]; exact hcell
        have g2 : wr.cell? ⟨x2, o2 + k, none⟩ = some (.int .i64 (b.getD k 0 : Nat)) := by rw [drC HW.out]; exact hcell2
        clear hcell hcell2 hl2
        generalize a.getD k 0 = s at *
        generalize b.getD k 0 = t at *
        by_cases hst : s = t
        · have q1 : ((s : Int) == (t : Int)) = true := by simp [hst]
          have HST := Lib.hid hst
          clear hst
          go_wp2_with fail
          go_quiet (fail)
          go_wp2_with fail
          go_roundw
          case rel => exact ⟨k + 1, by omega, by go_num, HX.out HST.out, drN HW.out _⟩
          case measure => simp [intOf]; omega
        · have q1 : ((s : Int) == (t : Int)) = false := by simp; omega
          have E0 : Hid (decide (a = b) = false) := decide_eq_false (HY.out hst)
          clear hst HX HY
          go_wp2_with fail
          go_quiet (fail)
          go_wp2
          rw [E0.out]
          go_ret
          exact ⟨rfl, drN HW.out _⟩
      · obtain rfl : k = a.length := by omega
        have E0 : Hid (decide (a = b) = true) := by
          have := HT.out
          rw [List.take_length, hl2, List.take_length] at this
          exact decide_eq_true this
        clear hl2
        go_wp2
        rw [E0.out]
        go_ret
        exact ⟨rfl, HW.out⟩
  · have c0 : ¬ (a.length : Int) = (b.length : Int) := by omega
    have c1 : ((a.length : Int) == (b.length : Int)) = false := by simpa using c0
    have E0 : Hid (decide (a = b) = false) := decide_eq_false (fun h => hl (by rw [h]))
    go_enter Tryz.func35, Tryz.ntmps35
    go_wp2
    rw [E0.out]
    go_ret
    exact ⟨rfl, 0, rfl⟩
end Go.Proofs.YthigandmemifoaaGreatDoor

namespace Go.Proofs
open Go.Shelf
def Tryz.lays112_ren : Go.Shelf.Ren := ⟨fun | 112 => 65 | n => n, fun | 28 => 34 | 0 => 0 | 3 => 3 | 4 => 4 | n => n, fun | n => n⟩
theorem Tryz.lays112 : Go.Proofs.Lays.n112 Tryz.prog Tryz.lays112_ren := {
  mixed := by kernel_rfl
  f112 := Tryz.func65.trans (congrArg some (by kernel_rfl))
  t0 := Tryz.underlying0
  a0 := Tryz.isAgg0
  z0 := Tryz.sizeOf0
  v0 := Tryz.zeroValue0
  t3 := Tryz.underlying3
  a3 := Tryz.isAgg3
  z3 := Tryz.sizeOf3
  v3 := Tryz.zeroValue3
  t4 := Tryz.underlying4
  a4 := Tryz.isAgg4
  z4 := Tryz.sizeOf4
  v4 := Tryz.zeroValue4
  t28 := Tryz.underlying34
  a28 := Tryz.isAgg34
  z28 := Tryz.sizeOf34
  v28 := Tryz.zeroValue34 }
end Go.Proofs
namespace Go.Proofs.YthigandmemifoaaGreatDoor
open Go.RowKit Go.PlainAid
set_option maxRecDepth 100000

theorem niC_int (ns : List Nat) : niC ns = (ns.map (fun x : Nat => (x : Int))).map (Value.int .i64) := by
  simp [niC]
theorem rev42 {B : Nat} {w0 : World} {v : Value} {ns : List Nat} {w : World} (h : OwnI B w0 v ns w) (hz : ns.length ≤ 1000) :
    Calls Tryz.prog 65 #[v] w fun e w' => e = .returned (.tuple #[]) ∧ OwnI B w0 v ns.reverse w' := by
  obtain ⟨h1, h2, h3⟩ := h
  have h1' := h1
  obtain ⟨hl, ⟨rfl, h0⟩ | ⟨g, cap, cur, rfl, hg, hk, h5, h6, h7, h8⟩⟩ := h1
  · obtain rfl : ns = [] := List.eq_nil_of_length_eq_zero h0
    refine (Any.slices_Reverse_int_empty Tryz.lays112 none 0 w).mono ?_
    rintro e w' ⟨he, rfl⟩
    exact ⟨he, h1', h2, h3⟩
  · have hlen : (ns.map (fun x : Nat => (x : Int))).length = ns.length := by simp
    rw [niC_int] at h8
    have hH : Sort.Holds (Value.int .i64) w g 0 (ns.map (fun x : Nat => (x : Int))).toArray := holds_of_blockI hk (by rw [hlen]; simpa using h8)
    have hr := Any.slices_Reverse_int Tryz.lays112 g 0 cap (ns.map (fun x : Nat => (x : Int))) w hH (by rw [hlen]; omega)
    rw [hlen] at hr
    refine Calls.mono hr ?_
    rintro e w' ⟨he, q, hw⟩
    refine ⟨he, ?_⟩
    have hown := ownsRow_sortedI (n := q) (os := #[]) (ss := ns.map (fun x : Nat => (x : Int))) (ts := (ns.map (fun x : Nat => (x : Int))).reverse) (by simp) hg hk (by rw [hlen]; exact h5) h6 h7
    have hgr := grownBy_sortedI (w := w) (g := g) (n := q) (os := #[]) (ns.map (fun x : Nat => (x : Int))).reverse.toArray
    rw [Sort.grow_empty, ← hw] at hown hgr
    have e2 : niC ns.reverse = ((ns.map (fun x : Nat => (x : Int))).reverse).map (Value.int .i64) := by simp [niC, List.map_reverse]
    refine ⟨?_, h2.grown hgr h3 (fun k hk => by cases hk; exact hg), by have := hgr.size; omega⟩
    rw [e2, List.length_reverse]
    rw [hlen] at hown
    exact hown

/-! the chain, upward -/
def upL (l : List Rc) : Nat → Int → Int → List Nat
  | 0, _, _ => []
  | f + 1, e, i => if 0 ≤ i ∧ i < e then i.toNat :: upL l f i (l.getD i.toNat default).p else []
/-- i's parents, the first one first, and i -/
def chL (l : List Rc) (i : Int) : List Nat := (upL l l.length l.length i).reverse
theorem up_len (l : List Rc) : ∀ f e i, (upL l f e i).length ≤ f := by
  intro f
  induction f with
  | zero => intro e i; simp [upL]
  | succ f ih =>
    intro e i
    rw [upL]
    split
    · have := ih i (l.getD i.toNat default).p
      rw [List.length_cons]; omega
    · simp
theorem up_lt (l : List Rc) : ∀ f e i, ∀ x ∈ upL l f e i, (x : Int) < e := by
  intro f
  induction f with
  | zero => intro e i x hx; simp [upL] at hx
  | succ f ih =>
    intro e i x hx
    rw [upL] at hx
    split at hx
    · rename_i h
      rw [List.mem_cons] at hx
      rcases hx with rfl | hx
      · omega
      · have := ih i _ x hx
        omega
    · simp at hx
theorem ch_len (l : List Rc) (i : Int) : (chL l i).length ≤ l.length := by rw [chL, List.length_reverse]; exact up_len _ _ _ _
theorem ch_lt (l : List Rc) (i : Int) : ∀ x ∈ chL l i, x < l.length := by
  intro x hx
  rw [chL, List.mem_reverse] at hx
  have := up_lt l _ _ _ x hx
  omega
theorem up_step {l : List Rc} {f : Nat} {e i : Int} (hf : e ≤ f) (h0 : 0 ≤ i) (h1 : i < e) : ∃ f' : Nat, f = f' + 1 ∧ i ≤ f' ∧ upL l f e i = i.toNat :: upL l f' i (l.getD i.toNat default).p := by
  cases f with
  | zero => omega
  | succ f => exact ⟨f, rfl, by omega, by rw [upL, if_pos ⟨h0, h1⟩]⟩
theorem up_stop {l : List Rc} {f : Nat} {e i : Int} (h : ¬ (0 ≤ i ∧ i < e)) : upL l f e i = [] := by
  cases f with
  | zero => rfl
  | succ f => rw [upL, if_neg h]


theorem OwnI.drN {B : Nat} {w0 : World} {v : Value} {ns : List Nat} {w w' : World} (h : OwnI B w0 v ns w) (hw : ∃ q, w' = w.drewN q) : OwnI B w0 v ns w' := h.call (drB hw _)
theorem OwnI.shapeC {B : Nat} {w0 : World} {v : Value} {ns : List Nat} {w : World} (h : OwnI B w0 v ns w) : ∃ A n c, v = .slice A n c := h.ni.shape
theorem OwnI.belowC {B : Nat} {w0 : World} {v : Value} {ns : List Nat} {w : World} (h : OwnI B w0 v ns w) : Below B w0 w := h.2.1

set_option maxHeartbeats 6400000 in
theorem chain24 (v : Value) (l : List Rc) (i : Int) (w : World) (h : Rs w v l) (hz : l.length ≤ 1000) :
    Calls Tryz.prog 41 #[v, .int .i64 i] w fun e w' => ∃ u, e = .returned u ∧ Ni w' u (chL l i) ∧ Below w.heap.size w w' := by
  have HS := Lib.hid h
  obtain ⟨A, cap, rfl⟩ := h.len
  clear h
  have HZ := Lib.hid hz
  go_enter Tryz.func41, Tryz.ntmps41
  go_wp2_with fail
  go_loopw [1, 5, 6] (fun s1 s5 s6 wr => ∃ (f : Nat) (e j : Int) (done : List Nat), s1 = .int .i64 j ∧ s6 = .int .i64 e ∧ Hid (OwnI w.heap.size w s5 done wr) ∧ Hid (done ++ upL l f e j = upL l l.length l.length i) ∧ e ≤ (f : Int) ∧ 0 ≤ e ∧ e ≤ (l.length : Int) ∧ done.length + f ≤ l.length) (fun _ _ s6 _ => (intOf s6).toNat)
  case atStart => exact ⟨l.length, l.length, i, [], rfl, rfl, nilI _ _ _ (Below.refl _ _) (Nat.le_refl _), rfl, by omega, by omega, by omega, by simp⟩
  case round =>
    obtain ⟨f, e, j, done, rfl, rfl, HO, HU, hef, he0, hel, hdl⟩ := hrel
    obtain ⟨A5, n5, c5, h5⟩ := HO.out.shapeC
    subst h5
    by_cases h0 : 0 ≤ j
    · by_cases h1 : j < e
      · obtain ⟨k, rfl⟩ : ∃ k : Nat, j = (k : Int) := ⟨j.toNat, by omega⟩
        obtain ⟨f', rfl, hjf, hstep⟩ := up_step (l := l) hef h0 h1
        have HX := Lib.hid hstep
        have hkl : k < l.length := by omega
        have HP := Lib.hid HO.out.belowC
        obtain ⟨x, o, rfl, hat, -⟩ := HS.out.at k hkl
        have X1 := Lib.hid hat.c1
        have e9 : ((k : Int)).toNat = k := by omega
        rw [e9] at HX
        clear e9
        have hlt : (k : Int) < (l.length : Int) := by omega
        clear hat hstep
        generalize l.getD k default = r at *
        go_wp2_with (first
          | (at_builtin; refine wpList_appI (w := wr.alloc (.cells #[.int .i64 (k : Int)] 3 (0, 0))) rfl (.tmp 22) (.tmp 24) rfl rfl (HO.out.alloc (.cells #[.int .i64 (k : Int)] 3 (0, 0))) (by have := HZ.out; omega) wr.heap.size k rfl (blk_new wr _) ?_; intro v6 w6 h6 hg6; have H6 := Lib.hid h6; have g1 : w6.cell? ⟨x, o + k * 8 + 1, none⟩ = some (.int .i64 r.p) := (by rw [h6.belowC.cell (World.block_lt_of_cell? w _ X1.out)]; exact X1.out); obtain ⟨A6, n6, c6, e6⟩ := h6.shapeC; subst e6; clear h6 hg6))
        go_quiet (fail)
        go_wp2_with fail
        go_roundw
        case rel =>
          refine ⟨f', k, r.p, done ++ [k], rfl, rfl, H6.out.drN ⟨_, rfl⟩, ?_, hjf, h0, by omega, by simp; omega⟩
          show _ = _
          rw [← HU.out, HX.out, List.append_assoc]
          rfl
        case measure => simp [intOf]; omega
      · have E0 : Hid (done.reverse = chL l i) := by
          have := HU.out
          rw [up_stop (by omega), List.append_nil] at this
          show _ = _
          rw [chL, this]
        have HR := Lib.hid (rev42 HO.out (by have := HZ.out; omega))
        rw [E0.out] at HR
        go_wp2_with (first | (go_at_call 65; refine HR.out.mono ?_; rintro e w' ⟨rfl, ho⟩; have HO2 := Lib.hid ho; clear ho))
        go_ret
        exact ⟨_, rfl, HO2.out.ni, HO2.out.belowC⟩
    · have E0 : Hid (done.reverse = chL l i) := by
        have := HU.out
        rw [up_stop (by omega), List.append_nil] at this
        show _ = _
        rw [chL, this]
      have HR := Lib.hid (rev42 HO.out (by have := HZ.out; omega))
      rw [E0.out] at HR
      go_wp2_with (first | (go_at_call 65; refine HR.out.mono ?_; rintro e w' ⟨rfl, ho⟩; have HO2 := Lib.hid ho; clear ho))
      go_ret
      exact ⟨_, rfl, HO2.out.ni, HO2.out.belowC⟩
end Go.Proofs.YthigandmemifoaaGreatDoor

namespace Go.Proofs.YthigandmemifoaaGreatDoor
open Go.RowKit Go.PlainAid
set_option maxRecDepth 100000

/-- few records, with few segments each -/
def Fit (l : List Rc) : Prop := l.length ≤ 20 ∧ ∀ r ∈ l, r.l.length ≤ 10
/-- the segments of these places, one behind the other -/
def sgsOf (l : List Rc) (c : List Nat) : List Sg := c.flatMap (fun k => (l.getD k default).l)
/-- the segments of a chain -/
def fuL (l : List Rc) (i : Int) : List Sg := sgsOf l (chL l i)
theorem sgs_next (l : List Rc) (c : List Nat) (k : Nat) (h : k < c.length) : sgsOf l (c.take (k + 1)) = sgsOf l (c.take k) ++ (l.getD (c.getD k 0) default).l := by
  have e : c.take (k + 1) = c.take k ++ [c.getD k 0] := by
    rw [List.take_add_one]
    simp only [List.getD, List.getElem?_eq_getElem h, Option.toList_some, Option.getD_some]
  rw [e, sgsOf, List.flatMap_append]
  simp [sgsOf]
theorem sgs_len {l : List Rc} (hf : Fit l) (c : List Nat) : (sgsOf l c).length ≤ c.length * 10 := by
  induction c with
  | nil => simp [sgsOf]
  | cons k c ih =>
    have : (l.getD k default).l.length ≤ 10 := by
      by_cases h : k < l.length
      · exact hf.2 _ (getD_mem l k h)
      · simp [List.getD, List.getElem?_eq_none (show l.length ≤ k by omega)]; decide
    simp [sgsOf] at ih this ⊢
    omega
theorem fu_len {l : List Rc} (hf : Fit l) (i : Int) : (fuL l i).length ≤ 200 := by
  have h1 := sgs_len hf (chL l i)
  have h2 := ch_len l i
  have h3 := hf.1
  unfold fuL
  omega

theorem OwnG.rebase {B B' : Nat} {w0 w1 w : World} {v : Value} {xs : List Sg} (h : OwnG B w1 v xs w) (hB : B' ≤ B) (hb : Below B' w0 w1) : OwnG B' w0 v xs w := by
  obtain ⟨⟨h1, h2⟩, h3, h4⟩ := h
  refine ⟨⟨h1, ?_⟩, hb.trans (h3.mono hB), by omega⟩
  rcases h2 with h2 | ⟨g, cap, cur, r1, r2, r3⟩
  · exact Or.inl h2
  · exact Or.inr ⟨g, cap, cur, r1, by omega, r3⟩

set_option maxHeartbeats 6400000 in
theorem full21 (v : Value) (l : List Rc) (i : Int) (w : World) (h : Rs w v l) (hf : Fit l) :
    Calls Tryz.prog 62 #[v, .int .i64 i] w fun e w' => ∃ u, e = .returned u ∧ OwnG w.heap.size w u (fuL l i) w' := by
  have HS := Lib.hid h
  have HF := Lib.hid hf
  have HC := Lib.hid (chain24 v l i w h (by have := hf.1; omega))
  have HL := Lib.hid (ch_len l i)
  have HT := Lib.hid (ch_lt l i)
  have hE : fuL l i = sgsOf l (chL l i) := rfl
  rw [hE]
  clear hE
  obtain ⟨A, cap, rfl⟩ := h.len
  clear h hf
  generalize chL l i = ch at *
  go_enter Tryz.func62, Tryz.ntmps62
  go_wp2_with (first | (go_at_call 41; refine HC.out.mono ?_; rintro e w1 ⟨u, rfl, hn, hb⟩; have B1 := Lib.hid hb; obtain ⟨A1, c1, e1, -, -, hc⟩ := hn; subst e1; have C1 := Lib.hid hc; clear hb hc))
  go_loopw [5, 12] (fun s5 s12 wr => ∃ (k : Nat), k ≤ ch.length ∧ s12 = .int .i64 k ∧ Hid (OwnG w1.heap.size w1 s5 (sgsOf l (ch.take k)) wr)) (fun _ s12 _ => ch.length - (intOf s12).toNat)
  case atStart => exact ⟨0, Nat.zero_le _, rfl, nilG _ _ _ (Below.refl _ _) (Nat.le_refl _)⟩
  case round =>
    obtain ⟨k, hk, rfl, HO⟩ := hrel
    have hb9 : ch.length ≤ 1000 := by have h2 := HL.out; have h3 := HF.out.1; omega
    have HB := Lib.hid HO.out.2.1
    obtain ⟨A5, n5, c5, h5⟩ := HO.out.gs.shape
    subst h5
    by_cases hlt : k < ch.length
    · have d0 : (k : Int) < (ch.length : Int) := by omega
      obtain ⟨x, o, rfl, hcell⟩ := C1.out k hlt
      have g0 : wr.cell? ⟨x, o + k, none⟩ = some (.int .i64 (ch.getD k 0 : Nat)) := by rw [HB.out.cell (World.block_lt_of_cell? _ _ hcell)]; exact hcell
      have HN := Lib.hid (sgs_next l ch k hlt)
      have HM := Lib.hid (sgs_len HF.out (ch.take k))
      have hy := HT.out (ch.getD k 0) (by simp [List.getD, hlt])
      clear hcell
      generalize ch.getD k 0 = y at *
      have HBB : Hid (Below w.heap.size w wr) := B1.out.trans (HB.out.mono B1.out.size)
      obtain ⟨x2, o2, rfl, hat, hgs⟩ := (HS.out.call HBB.out).at y hy
      have g2 := hat.c2
      have GS := Lib.hid hgs
      have hs10 : Hid ((l.getD y default).l.length ≤ 10) := HF.out.2 _ (getD_mem l y hy)
      have d1 : (y : Int) < (l.length : Int) := by omega
      clear hat hgs
      obtain ⟨A7, n7, c7, h7⟩ := GS.out.shape
      rw [h7] at g2 GS
      go_wp2_with (first
        | (at_builtin; refine wpList_catG wr rfl (.tmp 16) (.tmp 21) rfl w1.heap.size w1 _ _ rfl HO.out (by have h1 := HM.out; have h2 := HL.out; have h3 := HF.out.1; rw [List.length_take] at h1; omega) _ _ rfl hs10.out GS.out ?_; intro v6 w6 h6 hg6; have H6 := Lib.hid h6; obtain ⟨A6, n6, c6, e6⟩ := h6.gs.shape; subst e6; clear h6 hg6))
      go_roundw
      case rel =>
        refine ⟨k + 1, by omega, by go_num, ?_⟩
        rw [HN.out]
        exact H6.out
      case measure => simp [intOf]; omega
    · obtain rfl : k = ch.length := by omega
      rw [List.take_length] at HO
      go_wp2
      go_ret
      exact ⟨_, rfl, HO.out.rebase B1.out.size B1.out⟩
end Go.Proofs.YthigandmemifoaaGreatDoor
