/-
  route's Chain: slices.Reverse off the shelf, the loop walked.
-/
import Derived.Test.YtnnmbpghkflepaaGreatDoorRec
import Derived.Test.YtnnmbpghkflepaaGreatDoorInts
import Derived.Shelf.Slices.Reverse
import Derived.Sort.OwnSortedInts
namespace Go.Proofs
open Go.Shelf
def Tryz.lays112_ren : Go.Shelf.Ren := ⟨fun | 112 => 42 | n => n, fun | 28 => 23 | 0 => 0 | 3 => 3 | 4 => 4 | n => n, fun | n => n⟩
theorem Tryz.lays112 : Go.Proofs.Lays.n112 Tryz.prog Tryz.lays112_ren := {
  mixed := by kernel_rfl
  f112 := Tryz.func42.trans (congrArg some (by kernel_rfl))
  t0 := Tryz.underlying0
  a0 := Tryz.isAgg0
  z0 := Tryz.sizeOf0
  v0 := Tryz.zeroValue0
  t3 := Tryz.underlying3
  a3 := Tryz.isAgg3
  z3 := Tryz.sizeOf3
  v3 := Tryz.zeroValue3
  t4 := Tryz.underlying4
  a4 := Tryz.isAgg4
  z4 := Tryz.sizeOf4
  v4 := Tryz.zeroValue4
  t28 := Tryz.underlying23
  a28 := Tryz.isAgg23
  z28 := Tryz.sizeOf23
  v28 := Tryz.zeroValue23 }
end Go.Proofs
namespace Go.Proofs.YtnnmbpghkflepaaGreatDoor
open Go.RowKit Go.PlainAid
set_option maxRecDepth 100000

theorem niC_int (ns : List Nat) : niC ns = (ns.map (fun x : Nat => (x : Int))).map (Value.int .i64) := by
  simp [niC]
theorem rev42 {B : Nat} {w0 : World} {v : Value} {ns : List Nat} {w : World} (h : OwnI B w0 v ns w) (hz : ns.length ≤ 1000) :
    Calls Tryz.prog 42 #[v] w fun e w' => e = .returned (.tuple #[]) ∧ OwnI B w0 v ns.reverse w' := by
  obtain ⟨h1, h2, h3⟩ := h
  have h1' := h1
  obtain ⟨hl, ⟨rfl, h0⟩ | ⟨g, cap, cur, rfl, hg, hk, h5, h6, h7, h8⟩⟩ := h1
  · obtain rfl : ns = [] := List.eq_nil_of_length_eq_zero h0
    refine (Any.slices_Reverse_int_empty Tryz.lays112 none 0 w).mono ?_
    rintro e w' ⟨he, rfl⟩
    exact ⟨he, h1', h2, h3⟩
  · have hlen : (ns.map (fun x : Nat => (x : Int))).length = ns.length := by simp
    rw [niC_int] at h8
    have hH : Sort.Holds (Value.int .i64) w g 0 (ns.map (fun x : Nat => (x : Int))).toArray := holds_of_blockI hk (by rw [hlen]; simpa using h8)
    have hr := Any.slices_Reverse_int Tryz.lays112 g 0 cap (ns.map (fun x : Nat => (x : Int))) w hH (by rw [hlen]; omega)
    rw [hlen] at hr
    refine Calls.mono hr ?_
    rintro e w' ⟨he, q, hw⟩
    refine ⟨he, ?_⟩
    have hown := ownsRow_sortedI (n := q) (os := #[]) (ss := ns.map (fun x : Nat => (x : Int))) (ts := (ns.map (fun x : Nat => (x : Int))).reverse) (by simp) hg hk (by rw [hlen]; exact h5) h6 h7
    have hgr := grownBy_sortedI (w := w) (g := g) (n := q) (os := #[]) (ns.map (fun x : Nat => (x : Int))).reverse.toArray
    rw [Sort.grow_empty, ← hw] at hown hgr
    have e2 : niC ns.reverse = ((ns.map (fun x : Nat => (x : Int))).reverse).map (Value.int .i64) := by simp [niC, List.map_reverse]
    refine ⟨?_, h2.grown hgr h3 (fun k hk => by cases hk; exact hg), by have := hgr.size; omega⟩
    rw [e2, List.length_reverse]
    rw [hlen] at hown
    exact hown

/-! the chain, upward -/
def upL (l : List Rc) : Nat → Int → Int → List Nat
  | 0, _, _ => []
  | f + 1, e, i => if 0 ≤ i ∧ i < e then i.toNat :: upL l f i (l.getD i.toNat default).p else []
/-- i's parents, the first one first, and i -/
def chL (l : List Rc) (i : Int) : List Nat := (upL l l.length l.length i).reverse
theorem up_len (l : List Rc) : ∀ f e i, (upL l f e i).length ≤ f := by
  intro f
  induction f with
  | zero => intro e i; simp [upL]
  | succ f ih =>
    intro e i
    rw [upL]
    split
    · have := ih i (l.getD i.toNat default).p
      rw [List.length_cons]; omega
    · simp
theorem up_lt (l : List Rc) : ∀ f e i, ∀ x ∈ upL l f e i, (x : Int) < e := by
  intro f
  induction f with
  | zero => intro e i x hx; simp [upL] at hx
  | succ f ih =>
    intro e i x hx
    rw [upL] at hx
    split at hx
    · rename_i h
      rw [List.mem_cons] at hx
      rcases hx with rfl | hx
      · omega
      · have := ih i _ x hx
        omega
    · simp at hx
theorem ch_len (l : List Rc) (i : Int) : (chL l i).length ≤ l.length := by rw [chL, List.length_reverse]; exact up_len _ _ _ _
theorem ch_lt (l : List Rc) (i : Int) : ∀ x ∈ chL l i, x < l.length := by
  intro x hx
  rw [chL, List.mem_reverse] at hx
  have := up_lt l _ _ _ x hx
  omega
theorem up_step {l : List Rc} {f : Nat} {e i : Int} (hf : e ≤ f) (h0 : 0 ≤ i) (h1 : i < e) : ∃ f' : Nat, f = f' + 1 ∧ i ≤ f' ∧ upL l f e i = i.toNat :: upL l f' i (l.getD i.toNat default).p := by
  cases f with
  | zero => omega
  | succ f => exact ⟨f, rfl, by omega, by rw [upL, if_pos ⟨h0, h1⟩]⟩
theorem up_stop {l : List Rc} {f : Nat} {e i : Int} (h : ¬ (0 ≤ i ∧ i < e)) : upL l f e i = [] := by
  cases f with
  | zero => rfl
  | succ f => rw [upL, if_neg h]


theorem OwnI.drN {B : Nat} {w0 : World} {v : Value} {ns : List Nat} {w w' : World} (h : OwnI B w0 v ns w) (hw : ∃ q, w' = w.drewN q) : OwnI B w0 v ns w' := h.call (drB hw _)
theorem OwnI.shapeC {B : Nat} {w0 : World} {v : Value} {ns : List Nat} {w : World} (h : OwnI B w0 v ns w) : ∃ A n c, v = .slice A n c := h.ni.shape
theorem OwnI.belowC {B : Nat} {w0 : World} {v : Value} {ns : List Nat} {w : World} (h : OwnI B w0 v ns w) : Below B w0 w := h.2.1

set_option maxHeartbeats 6400000 in
theorem chain24 (v : Value) (l : List Rc) (i : Int) (w : World) (h : Rs w v l) (hz : l.length ≤ 1000) :
    Calls Tryz.prog 24 #[v, .int .i64 i] w fun e w' => ∃ u, e = .returned u ∧ Ni w' u (chL l i) ∧ Below w.heap.size w w' := by
  have HS := Lib.hid h
  obtain ⟨A, cap, rfl⟩ := h.len
  clear h
  have HZ := Lib.hid hz
  go_enter Tryz.func24, Tryz.ntmps24
  go_wp2_with fail
  go_loopw [1, 5, 6] (fun s1 s5 s6 wr => ∃ (f : Nat) (e j : Int) (done : List Nat), s1 = .int .i64 j ∧ s6 = .int .i64 e ∧ Hid (OwnI w.heap.size w s5 done wr) ∧ Hid (done ++ upL l f e j = upL l l.length l.length i) ∧ e ≤ (f : Int) ∧ 0 ≤ e ∧ e ≤ (l.length : Int) ∧ done.length + f ≤ l.length) (fun _ _ s6 _ => (intOf s6).toNat)
  case atStart => exact ⟨l.length, l.length, i, [], rfl, rfl, nilI _ _ _ (Below.refl _ _) (Nat.le_refl _), rfl, by omega, by omega, by omega, by simp⟩
  case round =>
    obtain ⟨f, e, j, done, rfl, rfl, HO, HU, hef, he0, hel, hdl⟩ := hrel
    obtain ⟨A5, n5, c5, h5⟩ := HO.out.shapeC
    subst h5
    by_cases h0 : 0 ≤ j
    · by_cases h1 : j < e
      · obtain ⟨k, rfl⟩ : ∃ k : Nat, j = (k : Int) := ⟨j.toNat, by omega⟩
        obtain ⟨f', rfl, hjf, hstep⟩ := up_step (l := l) hef h0 h1
        have HX := Lib.hid hstep
        have hkl : k < l.length := by omega
        have HP := Lib.hid HO.out.belowC
        obtain ⟨x, o, rfl, hat, -⟩ := HS.out.at k hkl
        have X1 := Lib.hid hat.c1
        have e9 : ((k : Int)).toNat = k := by omega
        rw [e9] at HX
        clear e9
        have hlt : (k : Int) < (l.length : Int) := by omega
        clear hat hstep
        generalize l.getD k default = r at *
        go_wp2_with (first
          | (at_builtin; refine wpList_appI (w := wr.alloc (.cells #[.int .i64 (k : Int)] 3 (0, 0))) rfl (.tmp 22) (.tmp 24) rfl rfl (HO.out.alloc (.cells #[.int .i64 (k : Int)] 3 (0, 0))) (by have := HZ.out; omega) wr.heap.size k rfl (blk_new wr _) ?_; intro v6 w6 h6 hg6; have H6 := Lib.hid h6; have g1 : w6.cell? ⟨x, o + k * 8 + 1, none⟩ = some (.int .i64 r.p) := (by rw [h6.belowC.cell (World.block_lt_of_cell? w _ X1.out)]; exact X1.out); obtain ⟨A6, n6, c6, e6⟩ := h6.shapeC; subst e6; clear h6 hg6))
        go_quiet (fail)
        go_wp2_with fail
        go_roundw
        case rel =>
          refine ⟨f', k, r.p, done ++ [k], rfl, rfl, H6.out.drN ⟨_, rfl⟩, ?_, hjf, h0, by omega, by simp; omega⟩
          show _ = _
          rw [← HU.out, HX.out, List.append_assoc]
          rfl
        case measure => simp [intOf]; omega
      · have E0 : Hid (done.reverse = chL l i) := by
          have := HU.out
          rw [up_stop (by omega), List.append_nil] at this
          show _ = _
          rw [chL, this]
        have HR := Lib.hid (rev42 HO.out (by have := HZ.out; omega))
        rw [E0.out] at HR
        go_wp2_with (first | (go_at_call 42; refine HR.out.mono ?_; rintro e w' ⟨rfl, ho⟩; have HO2 := Lib.hid ho; clear ho))
        go_ret
        exact ⟨_, rfl, HO2.out.ni, HO2.out.belowC⟩
    · have E0 : Hid (done.reverse = chL l i) := by
        have := HU.out
        rw [up_stop (by omega), List.append_nil] at this
        show _ = _
        rw [chL, this]
      have HR := Lib.hid (rev42 HO.out (by have := HZ.out; omega))
      rw [E0.out] at HR
      go_wp2_with (first | (go_at_call 42; refine HR.out.mono ?_; rintro e w' ⟨rfl, ho⟩; have HO2 := Lib.hid ho; clear ho))
      go_ret
      exact ⟨_, rfl, HO2.out.ni, HO2.out.belowC⟩
end Go.Proofs.YtnnmbpghkflepaaGreatDoor
