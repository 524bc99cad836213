/-
  rank's Sorted: its closure, the sort, the places.
-/
import Derived.Test.YtnnmbpghkflepaaGreatDoorFst
import Derived.Test.YtnnmbpghkflepaaGreatDoorShelfS
import Derived.Shelf.SlSortCmp.Whole1
namespace Go.Proofs.YtnnmbpghkflepaaGreatDoor
open Go.RowKit Go.PlainAid
set_option maxRecDepth 100000

/-- by the order of the patterns, then by the places -/
def cW (ls : List (List Sg)) (i k : Nat) : Int := if cP (ls.getD i default) (ls.getD k default) ≠ 0 then cP (ls.getD i default) (ls.getD k default) else cI i k
theorem tcW (ls : List (List Sg)) : TC (cW ls) where
  one x y := by
    have := tcP.one (ls.getD x default) (ls.getD y default)
    have := tcI.one (x : Int) (y : Int)
    unfold cW
    split <;> omega
  anti x y := by
    have := tcP.anti (ls.getD x default) (ls.getD y default)
    have := tcI.anti (x : Int) (y : Int)
    unfold cW
    split <;> split <;> omega
  zero x y := by
    have h1 := tcP.zero (ls.getD x default) (ls.getD y default)
    have h2 := tcI.zero (x : Int) (y : Int)
    unfold cW
    split
    · rename_i hn
      constructor
      · intro e; exact absurd e hn
      · intro e; exact absurd (h1.2 (by rw [e])) hn
    · rw [h2]; omega
  le x y z h1 h2 := by
    unfold cW at *
    have hI := tcI.le (x : Int) (y : Int) (z : Int)
    by_cases e1 : cP (ls.getD x default) (ls.getD y default) = 0
    · rw [if_neg (by simpa using e1)] at h1
      rw [(tcP.zero _ _).1 e1]
      by_cases e2 : cP (ls.getD y default) (ls.getD z default) = 0
      · rw [if_neg (by simpa using e2)] at h2 ⊢
        exact hI h1 h2
      · rw [if_pos e2] at h2 ⊢
        exact h2
    · rw [if_pos e1] at h1
      by_cases e2 : cP (ls.getD y default) (ls.getD z default) = 0
      · rw [← (tcP.zero _ _).1 e2, if_pos e1]
        exact h1
      · rw [if_pos e2] at h2
        have o1 := tcP.one (ls.getD x default) (ls.getD y default)
        have := tcP.lt_of_lt_le (x := ls.getD x default) (y := ls.getD y default) (z := ls.getD z default) (by omega) h2
        rw [if_pos (by omega)]
        omega

set_option maxHeartbeats 1600000 in
theorem less21 (ls : List (List Sg)) (i k Bs : Nat) (v : Value) (w : World) (hi : i < ls.length) (hk : k < ls.length) (hbox : w.cell? ⟨Bs, 0, none⟩ = some v) (hg : Gss w v ls) (hf : Few ls) :
    Calls Tryz.prog 63 #[.int .i64 i, .int .i64 k, .pointer (some ⟨Bs, 0, none⟩)] w fun e w' => e = .returned (.int .i64 (cW ls i k)) ∧ ∃ q, w' = w.drewN q := by
  obtain ⟨A, cap, rfl, _, _, hc⟩ := hg
  obtain ⟨x, o, u, rfl, g1, hu⟩ := hc i hi
  obtain ⟨x', o', u', hA, g2, hu'⟩ := hc k hk
  cases hA
  have d0 : (i : Int) < (ls.length : Int) := by omega
  have d1 : (k : Int) < (ls.length : Int) := by omega
  have hcp := fun W hW => compare8 u u' _ _ W (hu.drN hW) (hu'.drN hW) (hf.at i) (hf.at k)
  have HCP := Lib.hid hcp
  obtain ⟨A1, n1, c1, rfl⟩ := hu.shape
  obtain ⟨A2, n2, c2, rfl⟩ := hu'.shape
  have HW : Hid (cW ls i k = if cP (ls.getD i default) (ls.getD k default) ≠ 0 then cP (ls.getD i default) (ls.getD k default) else cI i k) := rfl
  generalize cW ls i k = V at *
  have hci := cmpI18 (i : Int) (k : Int)
  generalize cI (i : Int) (k : Int) = z at *
  generalize cP (ls.getD i default) (ls.getD k default) = r at *
  clear hc hcp hu hu' hi hk
  by_cases hr : r = 0
  · have q0 : (r == 0) = true := by simp [hr]
    have HN : Hid (V = z) := by have := HW.out; simp [hr] at this; exact this
    clear hr HW
    go_enter Tryz.func63, Tryz.ntmps63
    go_wp2_with fail
    go_quiet (first | (go_at_call 64; exact Calls.quiet_of (HCP.out _ ⟨_, rfl⟩)))
    go_wp2_with (first | (go_at_call 65; refine (hci _).mono ?_; rintro e w2 ⟨rfl, hw2⟩; subst hw2))
    rw [HN.out]
    go_ret
    exact ⟨rfl, _, rfl⟩
  · have q0 : (r == 0) = false := by simp [hr]
    have HN : Hid (V = r) := by have := HW.out; simp [hr] at this; exact this
    clear hr HW
    go_enter Tryz.func63, Tryz.ntmps63
    go_wp2_with fail
    go_quiet (first | (go_at_call 64; exact Calls.quiet_of (HCP.out _ ⟨_, rfl⟩)))
    go_wp2
    rw [HN.out]
    go_ret
    exact ⟨rfl, _, rfl⟩

/-- the row of a sort, and new blocks: all below stays -/
theorem below_sortW {α : Type} [Inhabited α] (enc : α → Value) {w0 w : World} (hb : Below w0.heap.size w0 w) (blk off m : Nat) (d : Array α) (os : Array Obj) (hB : w0.heap.size ≤ blk) : Below w0.heap.size w0 (sortWorld enc w blk off m d os) := by
  refine ⟨hb.os, hb.tape, hb.output, ?_, fun k hk => ?_⟩
  · have := hb.size
    simp only [sortWorld, Sort.size_grow, Sort.size_putRow]
    show _ ≤ w.heap.size + _
    omega
  · have hsz := hb.size
    rw [sortWorld, Sort.heap_grow_old _ _ (by rw [Sort.size_putRow]; show k < w.heap.size; omega)]
    rw [← hb.block k hk]
    simp only [Sort.putRow, Sort.mapBlock]
    rw [Array.getElem?_modify, if_neg (by omega)]
    rfl

def encF {n : Nat} (i : Fin n) : Value := .int .i64 (i.val : Int)
def rowF (n : Nat) : Array (Fin n) := Array.ofFn id

theorem swoF (ls : List (List Sg)) (n : Nat) : Sort.SWO (ltOf (α := Fin n) fun i k => cW ls i.val k.val) where
  irrefl x := by
    have := (tcW ls).refl x.val
    simp [ltOf, this]
  trans x y z h1 h2 := by
    simp only [ltOf, decide_eq_true_eq] at *
    exact (tcW ls).lt_of_lt_le h1 (by omega)
  ntrans x y z h1 h2 := by
    simp only [ltOf, decide_eq_false_iff_not] at *
    have a1 := (tcW ls).anti x.val y.val
    have a2 := (tcW ls).anti y.val z.val
    have a3 := (tcW ls).anti x.val z.val
    have := (tcW ls).le z.val y.val x.val (by omega) (by omega)
    omega

/-- what a sorted row of places is -/
def Places (ls : List (List Sg)) (ps : List Nat) : Prop := ps.Perm (List.range ls.length) ∧ ps.Pairwise (fun i k => cW ls i k < 0)

theorem places_of (ls : List (List Sg)) (n : Nat) (hn : ls.length = n) [Inhabited (Fin n)] (d : Array (Fin n)) (hp : Sort.PermIn 0 (rowF n).size (rowF n) d) (hs : Sort.SortedIn (ltOf (α := Fin n) fun i k => cW ls i.val k.val) 0 (rowF n).size d) :
    Places ls (d.toList.map Fin.val) := by
  have hz : (rowF n).size = n := by simp [rowF]
  obtain ⟨h1, _, h3⟩ := hp
  rw [hz] at hs h3 h1
  have e1 : (d.extract 0 n) = d := by
    have : d.extract 0 d.size = d := Array.extract_size
    rwa [h1] at this
  have e2 : ((rowF n).extract 0 n) = rowF n := by
    have : (rowF n).extract 0 (rowF n).size = rowF n := Array.extract_size
    rwa [hz] at this
  rw [e1, e2] at h3
  have hperm : (d.toList.map Fin.val).Perm (List.range n) := by
    have := h3.map Fin.val
    have e : (rowF n).toList.map Fin.val = List.range n := by
      apply List.ext_getElem
      · simp [rowF]
      · intro i h1 h2
        simp [rowF]
    rw [e] at this
    exact this
  refine ⟨by rw [hn]; exact hperm, ?_⟩
  have hnd : (d.toList.map Fin.val).Nodup := hperm.nodup_iff.2 List.nodup_range
  rw [List.pairwise_iff_getElem]
  intro i j hi hj hij
  simp only [List.length_map, Array.length_toList] at hi hj
  simp only [List.getElem_map, Array.getElem_toList]
  have hl := hs i j (by omega) hij (by omega)
  simp only [ltOf, decide_eq_false_iff_not] at hl
  rw [getElem!_pos d i hi, getElem!_pos d j hj] at hl
  have a1 := (tcW ls).anti (d[i]).val (d[j]).val
  have hne : cW ls (d[i]).val (d[j]).val ≠ 0 := by
    intro e
    have := ((tcW ls).zero _ _).1 e
    have h5 := (List.pairwise_iff_getElem.1 hnd) i j (by simpa using hi) (by simpa using hj) hij
    simp only [List.getElem_map, Array.getElem_toList] at h5
    exact h5 this
  omega

theorem len27 (n : Nat) (W : World) (h : n ≤ 12) : Calls Tryz.prog (Tryz.sortL_ren.f 15) #[.int .u64 n] W fun e w' => (∃ l : Int, e = .returned (.int .i64 l)) ∧ w' = W :=
  (Any.bits_Len Tryz.bitsLen n W (by omega) (by omega)).mono fun _ _ ⟨he, hw⟩ => ⟨⟨_, he⟩, hw⟩

/-- the sort of the places, some -/
theorem sort20 (ls : List (List Sg)) (n blk cap Bs : Nat) (v : Value) (w0 w : World) (hn0 : 0 < n) (hn : ls.length = n) (h12 : n ≤ 1000) (hbox : w0.cell? ⟨Bs, 0, none⟩ = some v) (hg : Gss w0 v ls) (hf : Few ls)
    (hb : Below w0.heap.size w0 w) (hB : w0.heap.size ≤ blk) (hH : ∀ j, j < n → w.cell? ⟨blk, j, none⟩ = some (.int .i64 j) ∧ w.frozen? ⟨blk, j, none⟩ = false) :
    Calls Tryz.prog 62 #[.slice (some ⟨blk, 0, none⟩) n cap, .func (.func 63) #[] #[.pointer (some ⟨Bs, 0, none⟩)]] w fun e w' =>
      e = .returned (.tuple #[]) ∧ ∃ ps, Places ls ps ∧ (∀ j, j < n → w'.cell? ⟨blk, j, none⟩ = some (.int .i64 (ps.getD j 0 : Nat))) ∧ Below w0.heap.size w0 w' := by
  haveI : Inhabited (Fin n) := ⟨⟨0, hn0⟩⟩
  have hz : (rowF n).size = n := by simp [rowF]
  have hrow : Sort.Holds (encF (n := n)) w blk 0 (rowF n) := by
    intro j hj
    rw [hz] at hj
    rw [Nat.zero_add]
    refine ⟨?_, (hH j hj).2⟩
    rw [(hH j hj).1, getElem!_pos (rowF n) j (by omega)]
    simp [rowF, encF]
  have hcmp : CmpReads Tryz.prog 63 #[.pointer (some ⟨Bs, 0, none⟩)] (encF (n := n)) (fun i k => cW ls i.val k.val) blk 0 (rowF n).size w := by
    intro m os dk hdk x y
    have hbw := below_sortW (encF (n := n)) hb blk 0 m dk os hB
    have hbx := World.block_lt_of_cell? _ _ hbox
    exact less21 ls x.val y.val Bs v _ (by rw [hn]; exact x.isLt) (by rw [hn]; exact y.isLt) (by rw [hbw.cell hbx]; exact hbox) (hg.call hbw) hf
  have eg : ∀ args w, (callFunc 63 args).run Tryz.prog w = .ok (.enter 63 args) w := enters_of Tryz.func63 (by kernel_rfl) rfl
  have hblk : blk < w.heap.size := World.block_lt_of_cell? _ _ (hH 0 hn0).1
  have h := Any.slices_SortFunc Tryz.sortL (encF (n := n)) (fun _ => rfl) (fun i k => cW ls i.val k.val) (swoF ls n) 63 #[.pointer (some ⟨Bs, 0, none⟩)] blk 0 cap (rowF n) w eg hcmp.lays hrow hblk (by omega)
  rw [hz] at h
  refine h.mono ?_
  rintro e w' ⟨he, d, m, os, hp, hs, hw⟩
  have hps := places_of ls n hn d (by rw [hz]; exact hp) (by rw [hz]; exact hs)
  have hds : d.size = n := by have := hp.1; omega
  refine ⟨he, d.toList.map Fin.val, hps, fun j hj => ?_, ?_⟩
  · subst hw
    have := (holds_sortWorld (encF (n := n)) w blk 0 m (rowF n) d os hblk hrow (by omega) j (by omega)).1
    rw [Nat.zero_add] at this
    rw [this, getElem!_pos d j (by omega)]
    simp [encF, List.getD, show j < d.size by omega]
  · subst hw
    exact below_sortW (encF (n := n)) hb blk 0 m d os hB

/-! the sort of none -/
set_option maxHeartbeats 2000000 in
theorem ins29_none (p : Option Addr) (cap : Nat) (fv : Value) (w : World) : Calls Tryz.prog 88 #[.slice p 0 cap, .int .i64 0, .int .i64 0, fv] w fun e w' => e = .returned (.tuple #[]) ∧ w' = w := by
  go_enter Tryz.func88, Tryz.ntmps88
  go_wp2
  refine wp_loop_rounds 1 ?_
  rw [rounds_succ]
  go_wp2
  go_end0
  exact ⟨rfl, rfl⟩
set_option maxHeartbeats 2000000 in
theorem pdq26_none (p : Option Addr) (cap : Nat) (lim : Int) (fv : Value) (w : World) : Calls Tryz.prog 78 #[.slice p 0 cap, .int .i64 0, .int .i64 0, .int .i64 lim, fv] w fun e w' => e = .returned (.tuple #[]) ∧ w' = w := by
  go_enter Tryz.func78, Tryz.ntmps78
  go_wp2
  refine wp_loop_rounds 1 ?_
  rw [rounds_succ]
  go_wp2_with (first | (go_at_call 88; refine (ins29_none _ _ _ _).mono ?_; rintro e w' ⟨rfl, rfl⟩))
  (try simp only [Exit.inBlock, Exit.then]); refine bodyPost_ret (results_none rfl _ _ _) rfl ?_
  exact ⟨rfl, rfl⟩
set_option maxHeartbeats 2000000 in
theorem sort20_none (p : Option Addr) (cap : Nat) (fv : Value) (w : World) : Calls Tryz.prog 62 #[.slice p 0 cap, fv] w fun e w' => e = .returned (.tuple #[]) ∧ w' = w := by
  have hl : ∀ W, Calls Tryz.prog 79 #[.int .u64 0] W fun e w' => (∃ l : Int, e = .returned (.int .i64 l)) ∧ w' = W := fun W => len27 0 W (by omega)
  go_enter Tryz.func62, Tryz.ntmps62
  go_wp2_with (first | (go_at_call 79; refine (hl _).mono ?_; rintro e w' ⟨⟨l, rfl⟩, rfl⟩) | (go_at_call 78; refine (pdq26_none _ _ _ _ _).mono ?_; rintro e w' ⟨rfl, rfl⟩))
  go_end0
  exact ⟨rfl, rfl⟩
end Go.Proofs.YtnnmbpghkflepaaGreatDoor
