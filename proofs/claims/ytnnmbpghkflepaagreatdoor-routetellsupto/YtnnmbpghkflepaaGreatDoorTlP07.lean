/-
  Put together: Srt, Srd, Ints, Chn.
-/
import Derived.Test.YtnnmbpghkflepaaGreatDoorTlP03
import Derived.Test.YtnnmbpghkflepaaGreatDoorTlP06
import Derived.Shelf.SlSortCmp.Whole1
import Derived.Deep.OwnRows
import Derived.Deep.CutBlock
import Derived.Deep.DeepCutAuto
import Derived.Test.YtnnmbpghkflepaaGreatDoorTlP05
import Derived.Shelf.Slices.Reverse
import Derived.Sort.OwnSortedInts
namespace Go.Proofs.YtnnmbpghkflepaaGreatDoor
open Go.RowKit Go.PlainAid
set_option maxRecDepth 100000

/-- by the order of the patterns, then by the places -/
def cW (ls : List (List Sg)) (i k : Nat) : Int := if cP (ls.getD i default) (ls.getD k default) ≠ 0 then cP (ls.getD i default) (ls.getD k default) else cI i k
theorem tcW (ls : List (List Sg)) : TC (cW ls) where
  one x y := by
    have := tcP.one (ls.getD x default) (ls.getD y default)
    have := tcI.one (x : Int) (y : Int)
    unfold cW
    split <;> omega
  anti x y := by
    have := tcP.anti (ls.getD x default) (ls.getD y default)
    have := tcI.anti (x : Int) (y : Int)
    unfold cW
    split <;> split <;> omega
  zero x y := by
    have h1 := tcP.zero (ls.getD x default) (ls.getD y default)
    have h2 := tcI.zero (x : Int) (y : Int)
    unfold cW
    split
    · rename_i hn
      constructor
      · intro e; exact absurd e hn
      · intro e; exact absurd (h1.2 (by rw [e])) hn
    · rw [h2]; omega
  le x y z h1 h2 := by
    unfold cW at *
    have hI := tcI.le (x : Int) (y : Int) (z : Int)
    by_cases e1 : cP (ls.getD x default) (ls.getD y default) = 0
    · rw [if_neg (by simpa using e1)] at h1
      rw [(tcP.zero _ _).1 e1]
      by_cases e2 : cP (ls.getD y default) (ls.getD z default) = 0
      · rw [if_neg (by simpa using e2)] at h2 ⊢
        exact hI h1 h2
      · rw [if_pos e2] at h2 ⊢
        exact h2
    · rw [if_pos e1] at h1
      by_cases e2 : cP (ls.getD y default) (ls.getD z default) = 0
      · rw [← (tcP.zero _ _).1 e2, if_pos e1]
        exact h1
      · rw [if_pos e2] at h2
        have o1 := tcP.one (ls.getD x default) (ls.getD y default)
        have := tcP.lt_of_lt_le (x := ls.getD x default) (y := ls.getD y default) (z := ls.getD z default) (by omega) h2
        rw [if_pos (by omega)]
        omega

set_option maxHeartbeats 1600000 in
theorem less21 (ls : List (List Sg)) (i k Bs : Nat) (v : Value) (w : World) (hi : i < ls.length) (hk : k < ls.length) (hbox : w.cell? ⟨Bs, 0, none⟩ = some v) (hg : Gss w v ls) (hf : Few ls) :
    Calls Tryz.prog 63 #[.int .i64 i, .int .i64 k, .pointer (some ⟨Bs, 0, none⟩)] w fun e w' => e = .returned (.int .i64 (cW ls i k)) ∧ ∃ q, w' = w.drewN q := by
  obtain ⟨A, cap, rfl, _, _, hc⟩ := hg
  obtain ⟨x, o, u, rfl, g1, hu⟩ := hc i hi
  obtain ⟨x', o', u', hA, g2, hu'⟩ := hc k hk
  cases hA
  have d0 : (i : Int) < (ls.length : Int) := by omega
  have d1 : (k : Int) < (ls.length : Int) := by omega
  have hcp := fun W hW => compare8 u u' _ _ W (hu.drN hW) (hu'.drN hW) (hf.at i) (hf.at k)
  have HCP := Lib.hid hcp
  obtain ⟨A1, n1, c1, rfl⟩ := hu.shape
  obtain ⟨A2, n2, c2, rfl⟩ := hu'.shape
  have HW : Hid (cW ls i k = if cP (ls.getD i default) (ls.getD k default) ≠ 0 then cP (ls.getD i default) (ls.getD k default) else cI i k) := rfl
  generalize cW ls i k = V at *
  have hci := cmpI18 (i : Int) (k : Int)
  generalize cI (i : Int) (k : Int) = z at *
  generalize cP (ls.getD i default) (ls.getD k default) = r at *
  clear hc hcp hu hu' hi hk
  by_cases hr : r = 0
  · have q0 : (r == 0) = true := by simp [hr]
    have HN : Hid (V = z) := by have := HW.out; simp [hr] at this; exact this
    clear hr HW
    go_enter Tryz.func63, Tryz.ntmps63
    go_wp2_with fail
    go_quiet (first | (go_at_call 64; exact Calls.quiet_of (HCP.out _ ⟨_, rfl⟩)))
    go_wp2_with (first | (go_at_call 65; refine (hci _).mono ?_; rintro e w2 ⟨rfl, hw2⟩; subst hw2))
    rw [HN.out]
    go_ret
    exact ⟨rfl, _, rfl⟩
  · have q0 : (r == 0) = false := by simp [hr]
    have HN : Hid (V = r) := by have := HW.out; simp [hr] at this; exact this
    clear hr HW
    go_enter Tryz.func63, Tryz.ntmps63
    go_wp2_with fail
    go_quiet (first | (go_at_call 64; exact Calls.quiet_of (HCP.out _ ⟨_, rfl⟩)))
    go_wp2
    rw [HN.out]
    go_ret
    exact ⟨rfl, _, rfl⟩

/-- the row of a sort, and new blocks: all below stays -/
theorem below_sortW {α : Type} [Inhabited α] (enc : α → Value) {w0 w : World} (hb : Below w0.heap.size w0 w) (blk off m : Nat) (d : Array α) (os : Array Obj) (hB : w0.heap.size ≤ blk) : Below w0.heap.size w0 (sortWorld enc w blk off m d os) := by
  refine ⟨hb.os, hb.tape, hb.output, ?_, fun k hk => ?_⟩
  · have := hb.size
    simp only [sortWorld, Sort.size_grow, Sort.size_putRow]
    show _ ≤ w.heap.size + _
    omega
  · have hsz := hb.size
    rw [sortWorld, Sort.heap_grow_old _ _ (by rw [Sort.size_putRow]; show k < w.heap.size; omega)]
    rw [← hb.block k hk]
    simp only [Sort.putRow, Sort.mapBlock]
    rw [Array.getElem?_modify, if_neg (by omega)]
    rfl

def encF {n : Nat} (i : Fin n) : Value := .int .i64 (i.val : Int)
def rowF (n : Nat) : Array (Fin n) := Array.ofFn id

theorem swoF (ls : List (List Sg)) (n : Nat) : Sort.SWO (ltOf (α := Fin n) fun i k => cW ls i.val k.val) where
  irrefl x := by
    have := (tcW ls).refl x.val
    simp [ltOf, this]
  trans x y z h1 h2 := by
    simp only [ltOf, decide_eq_true_eq] at *
    exact (tcW ls).lt_of_lt_le h1 (by omega)
  ntrans x y z h1 h2 := by
    simp only [ltOf, decide_eq_false_iff_not] at *
    have a1 := (tcW ls).anti x.val y.val
    have a2 := (tcW ls).anti y.val z.val
    have a3 := (tcW ls).anti x.val z.val
    have := (tcW ls).le z.val y.val x.val (by omega) (by omega)
    omega

/-- what a sorted row of places is -/
def Places (ls : List (List Sg)) (ps : List Nat) : Prop := ps.Perm (List.range ls.length) ∧ ps.Pairwise (fun i k => cW ls i k < 0)

theorem places_of (ls : List (List Sg)) (n : Nat) (hn : ls.length = n) [Inhabited (Fin n)] (d : Array (Fin n)) (hp : Sort.PermIn 0 (rowF n).size (rowF n) d) (hs : Sort.SortedIn (ltOf (α := Fin n) fun i k => cW ls i.val k.val) 0 (rowF n).size d) :
    Places ls (d.toList.map Fin.val) := by
  have hz : (rowF n).size = n := by simp [rowF]
  obtain ⟨h1, _, h3⟩ := hp
  rw [hz] at hs h3 h1
  have e1 : (d.extract 0 n) = d := by
    have : d.extract 0 d.size = d := Array.extract_size
    rwa [h1] at this
  have e2 : ((rowF n).extract 0 n) = rowF n := by
    have : (rowF n).extract 0 (rowF n).size = rowF n := Array.extract_size
    rwa [hz] at this
  rw [e1, e2] at h3
  have hperm : (d.toList.map Fin.val).Perm (List.range n) := by
    have := h3.map Fin.val
    have e : (rowF n).toList.map Fin.val = List.range n := by
      apply List.ext_getElem
      · simp [rowF]
      · intro i h1 h2
        simp [rowF]
    rw [e] at this
    exact this
  refine ⟨by rw [hn]; exact hperm, ?_⟩
  have hnd : (d.toList.map Fin.val).Nodup := hperm.nodup_iff.2 List.nodup_range
  rw [List.pairwise_iff_getElem]
  intro i j hi hj hij
  simp only [List.length_map, Array.length_toList] at hi hj
  simp only [List.getElem_map, Array.getElem_toList]
  have hl := hs i j (by omega) hij (by omega)
  simp only [ltOf, decide_eq_false_iff_not] at hl
  rw [getElem!_pos d i hi, getElem!_pos d j hj] at hl
  have a1 := (tcW ls).anti (d[i]).val (d[j]).val
  have hne : cW ls (d[i]).val (d[j]).val ≠ 0 := by
    intro e
    have := ((tcW ls).zero _ _).1 e
    have h5 := (List.pairwise_iff_getElem.1 hnd) i j (by simpa using hi) (by simpa using hj) hij
    simp only [List.getElem_map, Array.getElem_toList] at h5
    exact h5 this
  omega

theorem len27 (n : Nat) (W : World) (h : n ≤ 12) : Calls Tryz.prog (Tryz.sortL_ren.f 15) #[.int .u64 n] W fun e w' => (∃ l : Int, e = .returned (.int .i64 l)) ∧ w' = W :=
  (Any.bits_Len Tryz.bitsLen n W (by omega) (by omega)).mono fun _ _ ⟨he, hw⟩ => ⟨⟨_, he⟩, hw⟩

/-- the sort of the places, some -/
theorem sort20 (ls : List (List Sg)) (n blk cap Bs : Nat) (v : Value) (w0 w : World) (hn0 : 0 < n) (hn : ls.length = n) (h12 : n ≤ 1000) (hbox : w0.cell? ⟨Bs, 0, none⟩ = some v) (hg : Gss w0 v ls) (hf : Few ls)
    (hb : Below w0.heap.size w0 w) (hB : w0.heap.size ≤ blk) (hH : ∀ j, j < n → w.cell? ⟨blk, j, none⟩ = some (.int .i64 j) ∧ w.frozen? ⟨blk, j, none⟩ = false) :
    Calls Tryz.prog 62 #[.slice (some ⟨blk, 0, none⟩) n cap, .func (.func 63) #[] #[.pointer (some ⟨Bs, 0, none⟩)]] w fun e w' =>
      e = .returned (.tuple #[]) ∧ ∃ ps, Places ls ps ∧ (∀ j, j < n → w'.cell? ⟨blk, j, none⟩ = some (.int .i64 (ps.getD j 0 : Nat))) ∧ Below w0.heap.size w0 w' := by
  haveI : Inhabited (Fin n) := ⟨⟨0, hn0⟩⟩
  have hz : (rowF n).size = n := by simp [rowF]
  have hrow : Sort.Holds (encF (n := n)) w blk 0 (rowF n) := by
    intro j hj
    rw [hz] at hj
    rw [Nat.zero_add]
    refine ⟨?_, (hH j hj).2⟩
    rw [(hH j hj).1, getElem!_pos (rowF n) j (by omega)]
    simp [rowF, encF]
  have hcmp : CmpReads Tryz.prog 63 #[.pointer (some ⟨Bs, 0, none⟩)] (encF (n := n)) (fun i k => cW ls i.val k.val) blk 0 (rowF n).size w := by
    intro m os dk hdk x y
    have hbw := below_sortW (encF (n := n)) hb blk 0 m dk os hB
    have hbx := World.block_lt_of_cell? _ _ hbox
    exact less21 ls x.val y.val Bs v _ (by rw [hn]; exact x.isLt) (by rw [hn]; exact y.isLt) (by rw [hbw.cell hbx]; exact hbox) (hg.call hbw) hf
  have eg : ∀ args w, (callFunc 63 args).run Tryz.prog w = .ok (.enter 63 args) w := enters_of Tryz.func63 (by kernel_rfl) rfl
  have hblk : blk < w.heap.size := World.block_lt_of_cell? _ _ (hH 0 hn0).1
  have h := Any.slices_SortFunc Tryz.sortL (encF (n := n)) (fun _ => rfl) (fun i k => cW ls i.val k.val) (swoF ls n) 63 #[.pointer (some ⟨Bs, 0, none⟩)] blk 0 cap (rowF n) w eg hcmp.lays hrow hblk (by omega)
  rw [hz] at h
  refine h.mono ?_
  rintro e w' ⟨he, d, m, os, hp, hs, hw⟩
  have hps := places_of ls n hn d (by rw [hz]; exact hp) (by rw [hz]; exact hs)
  have hds : d.size = n := by have := hp.1; omega
  refine ⟨he, d.toList.map Fin.val, hps, fun j hj => ?_, ?_⟩
  · subst hw
    have := (holds_sortWorld (encF (n := n)) w blk 0 m (rowF n) d os hblk hrow (by omega) j (by omega)).1
    rw [Nat.zero_add] at this
    rw [this, getElem!_pos d j (by omega)]
    simp [encF, List.getD, show j < d.size by omega]
  · subst hw
    exact below_sortW (encF (n := n)) hb blk 0 m d os hB

/-! the sort of none -/
set_option maxHeartbeats 2000000 in
theorem ins29_none (p : Option Addr) (cap : Nat) (fv : Value) (w : World) : Calls Tryz.prog 88 #[.slice p 0 cap, .int .i64 0, .int .i64 0, fv] w fun e w' => e = .returned (.tuple #[]) ∧ w' = w := by
  go_enter Tryz.func88, Tryz.ntmps88
  go_wp2
  refine wp_loop_rounds 1 ?_
  rw [rounds_succ]
  go_wp2
  go_end0
  exact ⟨rfl, rfl⟩
set_option maxHeartbeats 2000000 in
theorem pdq26_none (p : Option Addr) (cap : Nat) (lim : Int) (fv : Value) (w : World) : Calls Tryz.prog 78 #[.slice p 0 cap, .int .i64 0, .int .i64 0, .int .i64 lim, fv] w fun e w' => e = .returned (.tuple #[]) ∧ w' = w := by
  go_enter Tryz.func78, Tryz.ntmps78
  go_wp2
  refine wp_loop_rounds 1 ?_
  rw [rounds_succ]
  go_wp2_with (first | (go_at_call 88; refine (ins29_none _ _ _ _).mono ?_; rintro e w' ⟨rfl, rfl⟩))
  (try simp only [Exit.inBlock, Exit.then]); refine bodyPost_ret (results_none rfl _ _ _) rfl ?_
  exact ⟨rfl, rfl⟩
set_option maxHeartbeats 2000000 in
theorem sort20_none (p : Option Addr) (cap : Nat) (fv : Value) (w : World) : Calls Tryz.prog 62 #[.slice p 0 cap, fv] w fun e w' => e = .returned (.tuple #[]) ∧ w' = w := by
  have hl : ∀ W, Calls Tryz.prog 79 #[.int .u64 0] W fun e w' => (∃ l : Int, e = .returned (.int .i64 l)) ∧ w' = W := fun W => len27 0 W (by omega)
  go_enter Tryz.func62, Tryz.ntmps62
  go_wp2_with (first | (go_at_call 79; refine (hl _).mono ?_; rintro e w' ⟨⟨l, rfl⟩, rfl⟩) | (go_at_call 78; refine (pdq26_none _ _ _ _ _).mono ?_; rintro e w' ⟨rfl, rfl⟩))
  go_end0
  exact ⟨rfl, rfl⟩
end Go.Proofs.YtnnmbpghkflepaaGreatDoor

namespace Go.Proofs.YtnnmbpghkflepaaGreatDoor
open Go.RowKit Go.PlainAid
set_option maxRecDepth 100000

theorem info3 : (Tryz.prog.info? 3).map (fun i => (i.zero, i.size, i.bytes)) = some (some (.int .i64 0), 1, 8) := by kernel_rfl

/-- the slice holds these numbers -/
def Ni (w : World) (v : Value) (ps : List Nat) : Prop :=
  ∃ A cap, v = .slice A ps.length cap ∧ ps.length ≤ cap ∧ (A = none → cap = 0) ∧ ∀ i, i < ps.length → ∃ b o, A = some ⟨b, o, none⟩ ∧ w.cell? ⟨b, o + i, none⟩ = some (.int .i64 (ps.getD i 0 : Nat))
theorem Ni.call {w w' : World} {v : Value} {ps : List Nat} (h : Ni w v ps) (hb : Below w.heap.size w w') : Ni w' v ps := by
  obtain ⟨A, cap, h1, h2, h3, h4⟩ := h
  refine ⟨A, cap, h1, h2, h3, fun i hi => ?_⟩
  obtain ⟨b, o, ha, hc⟩ := h4 i hi
  exact ⟨b, o, ha, by rw [hb.cell (World.block_lt_of_cell? w _ hc)]; exact hc⟩
theorem Ni.shape {w : World} {v : Value} {ps : List Nat} (h : Ni w v ps) : ∃ A n c, v = .slice A n c := by
  obtain ⟨A, cap, e, _⟩ := h
  exact ⟨_, _, _, e⟩
theorem Places.len {ls : List (List Sg)} {ps : List Nat} (h : Places ls ps) : ps.length = ls.length := by
  have := h.1.length_eq
  simpa using this

theorem box_len {w : World} {v : Value} {ls : List (List Sg)} (h : Gss w v ls) : ∃ A c, v = .slice A ls.length c := by
  obtain ⟨A, cap, e, _⟩ := h
  exact ⟨_, _, e⟩

set_option maxHeartbeats 3200000 in
theorem sorted11 (v : Value) (ls : List (List Sg)) (w : World) (hg : Gss w v ls) (h12 : ls.length ≤ 1000) (hf : Few ls) :
    Calls Tryz.prog 44 #[v] w fun e w' => ∃ u ps, e = .returned u ∧ Ni w' u ps ∧ Places ls ps ∧ Below w.heap.size w w' ∧ ∀ b o n c, u = .slice (some ⟨b, o, none⟩) n c → w.heap.size ≤ b := by
  obtain ⟨A, c, rfl⟩ := box_len hg
  have HG := Lib.hid hg
  have HF := Lib.hid hf
  clear hg hf
  obtain ⟨n, hn⟩ : ∃ n, n = ls.length := ⟨_, rfl⟩
  rw [← hn] at h12 ⊢
  have HNl := Lib.hid hn
  clear hn
  rw [← HNl.out] at HG
  have HX := Lib.hid (blk_new w (.cells #[.slice A n c] 66 (0, 0)))
  have HB1 := Lib.hid ((Below.refl w.heap.size w).alloc (Nat.le_refl _) (.cells #[.slice A n c] 66 (0, 0)))
  have HG1 := Lib.hid (HG.out.call HB1.out)
  have x0 : (w.alloc (.cells #[.slice A n c] 66 (0, 0))).cell? ⟨w.heap.size, 0, none⟩ = some (.slice A n c) := by rw [blk_cell HX.out]; rfl
  have hsz : (w.alloc (.cells #[.slice A n c] 66 (0, 0))).heap.size = w.heap.size + 1 := by simp
  have HX0 := Lib.hid x0
  obtain ⟨i0, hi, hz0, hz1, hz2⟩ := info_parts info3
  have hby : i0.bytes * n ≤ 281474976710656 := by rw [hz2]; omega
  go_enter Tryz.func44, Tryz.ntmps44
  go_upto_region 2 with (at_make; refine wpList_make_row _ rfl _ _ 23 rfl 3 i0 (.int .i64 0) Tryz.underlying23 hi hz0 hz1 rfl .i64 .i64 n rfl rfl hby (by omega) ?_)
  clear hi hz0 hz1 hz2 hby i0
  have R1 := Lib.hid (World.rowIs_made (w.alloc (.cells #[.slice A n c] 66 (0, 0))) (.int .i64 0) n 3)
  have HB2 := Lib.hid ((Below.refl (w.alloc (.cells #[.slice A n c] 66 (0, 0))).heap.size (w.alloc (.cells #[.slice A n c] 66 (0, 0)))).alloc (Nat.le_refl _) (.cells (madeCells #[.int .i64 0] n) 3 (0, 0)))
  rw [hsz] at R1 HB2
  generalize (w.alloc (.cells #[.slice A n c] 66 (0, 0))).alloc (.cells (madeCells #[.int .i64 0] n) 3 (0, 0)) = w2 at *
  generalize w.alloc (.cells #[.slice A n c] 66 (0, 0)) = w1 at *
  have HS := Lib.hid hsz
  clear x0 hsz
  generalize hNN : w.heap.size + 1 = N at *
  have HNN := Lib.hid hNN
  clear hNN
  go_wp2_with fail
  go_loopw [10] (fun i wr => ∃ (k : Nat), k ≤ n ∧ i = .int .i64 k ∧ wr.rowIs N 3 n (fun j => if j < k then .int .i64 j else .int .i64 0) ∧ Below N w1 wr) (fun i _ => n - (intOf i).toNat)
  case atStart => exact ⟨0, Nat.zero_le _, rfl, R1.out.congr (fun i hi => by simp), HB2.out⟩
  case round =>
    obtain ⟨k, hk, rfl, hrow, hbw⟩ := hrel
    have HR := Lib.hid hrow
    have HBW := Lib.hid hbw
    clear hrow hbw
    by_cases hlt : k < n
    · have d0 : (k : Int) < (n : Int) := by omega
      have c1 := HR.out.cell hlt
      have c2 := HR.out.frozen k
      go_wp2_with fail
      go_roundw
      case rel =>
        refine ⟨k + 1, by omega, by go_num, (HR.out.set k _).congr (fun j hj => ?_), HBW.out.setCell (Nat.le_refl _) _⟩
        by_cases e1 : j = k
        · subst e1
          simp
        · by_cases e2 : j < k
          · simp [e1, e2, show j < k + 1 by omega]
          · simp [e1, e2, show ¬ j < k + 1 by omega]
      case measure => simp [intOf]; omega
    · obtain rfl : k = n := by omega
      have HBw : Hid (Below w1.heap.size w1 wr) := by rw [HS.out]; exact HBW.out
      by_cases h0 : k = 0
      · subst h0
        go_wp2_with (first | (go_at_call 62; refine (sort20_none _ _ _ _).mono ?_; rintro e w' ⟨rfl, hw⟩; subst hw))
        go_ret
        have e0 : ls = [] := List.eq_nil_of_length_eq_zero HNl.out.symm
        refine ⟨_, [], rfl, ⟨_, 0, rfl, Nat.le_refl _, (fun _ => rfl), fun i hi => by simp at hi⟩, ?_, HB1.out.trans (HBw.out.mono HB1.out.size), fun b o n c e => by cases e; have := HNN.out; omega⟩
        rw [e0]
        exact ⟨by simp, List.Pairwise.nil⟩
      · have hS := sort20 ls k N k w.heap.size (.slice A k c) w1 wr (by omega) HNl.out.symm h12 HX0.out HG1.out HF.out HBw.out (by rw [HS.out]; exact Nat.le_refl _) (fun j hj => ⟨by rw [HR.out.cell hj]; simp [hj], HR.out.frozen j⟩)
        go_wp2_with (first | (go_at_call 62; refine hS.mono ?_; rintro e w' ⟨rfl, hps⟩; have HPS := Lib.hid hps; clear hps))
        go_ret
        obtain ⟨ps, hp, hcell, hbb⟩ := HPS.out
        have hl := hp.len
        rw [← HNl.out] at hl
        refine ⟨_, ps, rfl, ⟨_, k, by rw [hl]; rfl, by omega, (fun e => by cases e), fun i hi => ⟨N, 0, rfl, ?_⟩⟩, hp, HB1.out.trans (hbb.mono HB1.out.size), fun b o n c e => by cases e; have := HNN.out; omega⟩
        rw [Nat.zero_add]
        exact hcell i (by omega)
end Go.Proofs.YtnnmbpghkflepaaGreatDoor

namespace Go.Proofs.YtnnmbpghkflepaaGreatDoor
open Go.RowKit Go.PlainAid
set_option maxRecDepth 100000

def niC (ns : List Nat) : List Value := ns.map (fun x : Nat => Value.int .i64 (x : Int))
def OwnI (B : Nat) (w0 : World) (v : Value) (ns : List Nat) (w : World) : Prop :=
  w.ownsRow B 3 1 v ns.length (niC ns) ∧ Below B w0 w ∧ B ≤ w.heap.size
section
variable {B : Nat} {w0 : World} {v : Value} {w : World} {ns : List Nat}
theorem OwnI.alloc (h : OwnI B w0 v ns w) (o : Obj) : OwnI B w0 v ns (w.alloc o) := ⟨h.1.alloc o, h.2.1.alloc h.2.2 o, by have := h.2.2; simp; omega⟩
theorem OwnI.call {w' : World} (h : OwnI B w0 v ns w) (hb : Below w.heap.size w w') : OwnI B w0 v ns w' :=
  ⟨owns_call h.1 hb, h.2.1.trans (hb.mono h.2.2), by have := hb.size; have := h.2.2; omega⟩
theorem nilI (B : Nat) (w0 w : World) (hb : Below B w0 w) (hB : B ≤ w.heap.size) : OwnI B w0 (.slice none 0 0) [] w := ⟨World.ownsRow_nil _ _ _ _, hb, hB⟩
theorem OwnI.ni (h : OwnI B w0 v ns w) : Ni w v ns := by
  have hc := @World.ownsRow.cells _ _ _ _ _ _ _ h.1
  obtain ⟨hl, ⟨rfl, h1⟩ | ⟨g, cap, cur, rfl, _, _, h4, _⟩⟩ := h.1
  · obtain rfl : ns = [] := List.eq_nil_of_length_eq_zero h1
    exact ⟨none, 0, rfl, by simp, fun _ => rfl, fun i hi => by simp at hi⟩
  · refine ⟨some ⟨g, 0, none⟩, cap, rfl, h4, (fun h => by cases h), fun i hi => ⟨g, 0, rfl, ?_⟩⟩
    have := hc rfl i (.int .i64 (ns.getD i 0 : Nat)) (by simp [niC, List.getD, hi])
    rw [add_lit'] at this
    exact this
theorem wpList_appI {ops : Array Oper} {rest : List Oper} {o : Oper} {a : Act} {Q : Exit → Act → World → Prop} (hgd : o.guard = none) (s x : Operand)
    (ho : o.op = .call { callee := .builtin .append, args := #[s, x], argTypes := #[23, 23] })
    (hs : a.eval s = v) (hown : OwnI B w0 v ns w) (hn : ns.length ≤ 1000)
    (b y : Nat) (hx : a.eval x = .slice (some ⟨b, 0, none⟩) 1 1) (hb : w.heap[b]? = some (.cells #[.int .i64 (y : Int)] 3 (0, 0)))
    (h : ∀ v' w', OwnI B w0 v' (ns ++ [y]) w' → w.grownBy w' v.ownBlock → wpList Tryz.prog ops Q rest (a.put o.dst v') w') : wpList Tryz.prog ops Q (o :: rest) a w := by
  refine wpList_plain hgd fun K hK => ?_
  obtain ⟨i0, hi, hz0, hz1, hz2⟩ := info_parts info3
  have hr := run_append_own_at (P := Tryz.prog) w B 23 o.type 3 i0 (.int .i64 0) 1 8 Tryz.underlying23 hi hz0 hz1 hz2 rfl (by omega) v ns.length _ hown.1 ⟨b, 0, none⟩ 1 1 [.int .i64 (y : Int)] rfl (World.news_of_block hb) (by intro u hu; simp at hu; subst hu; rfl) (by unfold maxLen; omega) (by omega) hown.2.2
  obtain ⟨v', w', hr, h2, h3, _, h5⟩ := hr
  unfold Oper.wp execOp
  simp only [ho, resolve, invoke, builtin, Sem.run_bind, Sem.run_pure, Result.andThen_ok, List.map_toArray, List.map_cons, List.map_nil, hs, hx, hr]
  refine hK _ _ (h v' w' ⟨?_, hown.2.1.grown h3 hown.2.2 (fun k hk => (hown.1.lt k hk).1), by have := h3.size; have := hown.2.2; omega⟩ h3)
  have e : niC (ns ++ [y]) = niC ns ++ [.int .i64 (y : Int)] := by simp [niC]
  rw [List.length_append, e]
  exact h2
end

theorem nat_at {a b : List Nat} {k : Nat} (h : a.take k = b.take k) (h1 : k < a.length) (h2 : k < b.length) (he : a.getD k 0 = b.getD k 0) : a.take (k + 1) = b.take (k + 1) := by
  rw [List.take_add_one, List.take_add_one, h]
  simp only [List.getD, List.getElem?_eq_getElem h1, List.getElem?_eq_getElem h2, Option.getD_some] at he
  rw [List.getElem?_eq_getElem h1, List.getElem?_eq_getElem h2, he]

set_option maxHeartbeats 1600000 in
theorem sameI16 (v1 v2 : Value) (a b : List Nat) (w : World) (h1 : Ni w v1 a) (h2 : Ni w v2 b) (hz : a.length ≤ 1000) (_ : b.length ≤ 1000) :
    Calls Tryz.prog 23 #[v1, v2] w fun e w' => e = .returned (.bool (decide (a = b))) ∧ ∃ q, w' = w.drewN q := by
  obtain ⟨A, cap, rfl, _, _, hc⟩ := h1
  obtain ⟨A2, cap2, rfl, _, _, hc2⟩ := h2
  have HC := Lib.hid hc
  have HC2 := Lib.hid hc2
  clear hc hc2
  by_cases hl : a.length = b.length
  · have HL := Lib.hid hl
    have c0 : ((a.length : Int) == (b.length : Int)) = true := by simp; omega
    clear hl
    go_enter Tryz.func23, Tryz.ntmps23
    go_wp2_with fail
    (try rw [c0])
    clear c0
    go_loopw [5] (fun i wr => ∃ (k : Nat), k ≤ a.length ∧ i = .int .i64 k ∧ Hid (a.take k = b.take k) ∧ Hid (∃ q, wr = w.drewN q)) (fun i _ => a.length - (intOf i).toNat)
    case atStart => exact ⟨0, Nat.zero_le _, rfl, rfl, 0, rfl⟩
    case round =>
      obtain ⟨k, hk, rfl, HT, HW⟩ := hrel
      have hl2 := HL.out
      by_cases hlt : k < a.length
      · have d0 : (k : Int) < (a.length : Int) := by omega
        have d1 : (k : Int) < (b.length : Int) := by omega
        have HX := Lib.hid (nat_at HT.out hlt (by omega))
        have HY : Hid (¬ a.getD k 0 = b.getD k 0 → ¬ a = b) := fun h e => h (by rw [e])
        obtain ⟨x, o, rfl, hcell⟩ := HC.out k hlt
        obtain ⟨x2, o2, rfl, hcell2⟩ := HC2.out k (by omega)
        have g1 : wr.cell? ⟨x, o + k, none⟩ = some (.int .i64 (a.getD k 0 : Nat)) := by rw [drC HW.out]; exact hcell
        have g2 : wr.cell? ⟨x2, o2 + k, none⟩ = some (.int .i64 (b.getD k 0 : Nat)) := by rw [drC HW.out]; exact hcell2
        clear hcell hcell2 hl2
        generalize a.getD k 0 = s at *
        generalize b.getD k 0 = t at *
        by_cases hst : s = t
        · have q1 : ((s : Int) == (t : Int)) = true := by simp [hst]
          have HST := Lib.hid hst
          clear hst
          go_wp2_with fail
          go_quiet (fail)
          go_wp2_with fail
          go_roundw
          case rel => exact ⟨k + 1, by omega, by go_num, HX.out HST.out, drN HW.out _⟩
          case measure => simp [intOf]; omega
        · have q1 : ((s : Int) == (t : Int)) = false := by simp; omega
          have E0 : Hid (decide (a = b) = false) := decide_eq_false (HY.out hst)
          clear hst HX HY
          go_wp2_with fail
          go_quiet (fail)
          go_wp2
          rw [E0.out]
          go_ret
          exact ⟨rfl, drN HW.out _⟩
      · obtain rfl : k = a.length := by omega
        have E0 : Hid (decide (a = b) = true) := by
          have := HT.out
          rw [List.take_length, hl2, List.take_length] at this
          exact decide_eq_true this
        clear hl2
        go_wp2
        rw [E0.out]
        go_ret
        exact ⟨rfl, HW.out⟩
  · have c0 : ¬ (a.length : Int) = (b.length : Int) := by omega
    have c1 : ((a.length : Int) == (b.length : Int)) = false := by simpa using c0
    have E0 : Hid (decide (a = b) = false) := decide_eq_false (fun h => hl (by rw [h]))
    go_enter Tryz.func23, Tryz.ntmps23
    go_wp2
    rw [E0.out]
    go_ret
    exact ⟨rfl, 0, rfl⟩
end Go.Proofs.YtnnmbpghkflepaaGreatDoor

namespace Go.Proofs
open Go.Shelf
def Tryz.lays112_ren : Go.Shelf.Ren := ⟨fun | 112 => 42 | n => n, fun | 28 => 23 | 0 => 0 | 3 => 3 | 4 => 4 | n => n, fun | n => n⟩
theorem Tryz.lays112 : Go.Proofs.Lays.n112 Tryz.prog Tryz.lays112_ren := {
  mixed := by kernel_rfl
  f112 := Tryz.func42.trans (congrArg some (by kernel_rfl))
  t0 := Tryz.underlying0
  a0 := Tryz.isAgg0
  z0 := Tryz.sizeOf0
  v0 := Tryz.zeroValue0
  t3 := Tryz.underlying3
  a3 := Tryz.isAgg3
  z3 := Tryz.sizeOf3
  v3 := Tryz.zeroValue3
  t4 := Tryz.underlying4
  a4 := Tryz.isAgg4
  z4 := Tryz.sizeOf4
  v4 := Tryz.zeroValue4
  t28 := Tryz.underlying23
  a28 := Tryz.isAgg23
  z28 := Tryz.sizeOf23
  v28 := Tryz.zeroValue23 }
end Go.Proofs
namespace Go.Proofs.YtnnmbpghkflepaaGreatDoor
open Go.RowKit Go.PlainAid
set_option maxRecDepth 100000

theorem niC_int (ns : List Nat) : niC ns = (ns.map (fun x : Nat => (x : Int))).map (Value.int .i64) := by
  simp [niC]
theorem rev42 {B : Nat} {w0 : World} {v : Value} {ns : List Nat} {w : World} (h : OwnI B w0 v ns w) (hz : ns.length ≤ 1000) :
    Calls Tryz.prog 42 #[v] w fun e w' => e = .returned (.tuple #[]) ∧ OwnI B w0 v ns.reverse w' := by
  obtain ⟨h1, h2, h3⟩ := h
  have h1' := h1
  obtain ⟨hl, ⟨rfl, h0⟩ | ⟨g, cap, cur, rfl, hg, hk, h5, h6, h7, h8⟩⟩ := h1
  · obtain rfl : ns = [] := List.eq_nil_of_length_eq_zero h0
    refine (Any.slices_Reverse_int_empty Tryz.lays112 none 0 w).mono ?_
    rintro e w' ⟨he, rfl⟩
    exact ⟨he, h1', h2, h3⟩
  · have hlen : (ns.map (fun x : Nat => (x : Int))).length = ns.length := by simp
    rw [niC_int] at h8
    have hH : Sort.Holds (Value.int .i64) w g 0 (ns.map (fun x : Nat => (x : Int))).toArray := holds_of_blockI hk (by rw [hlen]; simpa using h8)
    have hr := Any.slices_Reverse_int Tryz.lays112 g 0 cap (ns.map (fun x : Nat => (x : Int))) w hH (by rw [hlen]; omega)
    rw [hlen] at hr
    refine Calls.mono hr ?_
    rintro e w' ⟨he, q, hw⟩
    refine ⟨he, ?_⟩
    have hown := ownsRow_sortedI (n := q) (os := #[]) (ss := ns.map (fun x : Nat => (x : Int))) (ts := (ns.map (fun x : Nat => (x : Int))).reverse) (by simp) hg hk (by rw [hlen]; exact h5) h6 h7
    have hgr := grownBy_sortedI (w := w) (g := g) (n := q) (os := #[]) (ns.map (fun x : Nat => (x : Int))).reverse.toArray
    rw [Sort.grow_empty, ← hw] at hown hgr
    have e2 : niC ns.reverse = ((ns.map (fun x : Nat => (x : Int))).reverse).map (Value.int .i64) := by simp [niC, List.map_reverse]
    refine ⟨?_, h2.grown hgr h3 (fun k hk => by cases hk; exact hg), by have := hgr.size; omega⟩
    rw [e2, List.length_reverse]
    rw [hlen] at hown
    exact hown

/-! the chain, upward -/
def upL (l : List Rc) : Nat → Int → Int → List Nat
  | 0, _, _ => []
  | f + 1, e, i => if 0 ≤ i ∧ i < e then i.toNat :: upL l f i (l.getD i.toNat default).p else []
/-- i's parents, the first one first, and i -/
def chL (l : List Rc) (i : Int) : List Nat := (upL l l.length l.length i).reverse
theorem up_len (l : List Rc) : ∀ f e i, (upL l f e i).length ≤ f := by
  intro f
  induction f with
  | zero => intro e i; simp [upL]
  | succ f ih =>
    intro e i
    rw [upL]
    split
    · have := ih i (l.getD i.toNat default).p
      rw [List.length_cons]; omega
    · simp
theorem up_lt (l : List Rc) : ∀ f e i, ∀ x ∈ upL l f e i, (x : Int) < e := by
  intro f
  induction f with
  | zero => intro e i x hx; simp [upL] at hx
  | succ f ih =>
    intro e i x hx
    rw [upL] at hx
    split at hx
    · rename_i h
      rw [List.mem_cons] at hx
      rcases hx with rfl | hx
      · omega
      · have := ih i _ x hx
        omega
    · simp at hx
theorem ch_len (l : List Rc) (i : Int) : (chL l i).length ≤ l.length := by rw [chL, List.length_reverse]; exact up_len _ _ _ _
theorem ch_lt (l : List Rc) (i : Int) : ∀ x ∈ chL l i, x < l.length := by
  intro x hx
  rw [chL, List.mem_reverse] at hx
  have := up_lt l _ _ _ x hx
  omega
theorem up_step {l : List Rc} {f : Nat} {e i : Int} (hf : e ≤ f) (h0 : 0 ≤ i) (h1 : i < e) : ∃ f' : Nat, f = f' + 1 ∧ i ≤ f' ∧ upL l f e i = i.toNat :: upL l f' i (l.getD i.toNat default).p := by
  cases f with
  | zero => omega
  | succ f => exact ⟨f, rfl, by omega, by rw [upL, if_pos ⟨h0, h1⟩]⟩
theorem up_stop {l : List Rc} {f : Nat} {e i : Int} (h : ¬ (0 ≤ i ∧ i < e)) : upL l f e i = [] := by
  cases f with
  | zero => rfl
  | succ f => rw [upL, if_neg h]


theorem OwnI.drN {B : Nat} {w0 : World} {v : Value} {ns : List Nat} {w w' : World} (h : OwnI B w0 v ns w) (hw : ∃ q, w' = w.drewN q) : OwnI B w0 v ns w' := h.call (drB hw _)
theorem OwnI.shapeC {B : Nat} {w0 : World} {v : Value} {ns : List Nat} {w : World} (h : OwnI B w0 v ns w) : ∃ A n c, v = .slice A n c := h.ni.shape
theorem OwnI.belowC {B : Nat} {w0 : World} {v : Value} {ns : List Nat} {w : World} (h : OwnI B w0 v ns w) : Below B w0 w := h.2.1

set_option maxHeartbeats 6400000 in
theorem chain24 (v : Value) (l : List Rc) (i : Int) (w : World) (h : Rs w v l) (hz : l.length ≤ 1000) :
    Calls Tryz.prog 24 #[v, .int .i64 i] w fun e w' => ∃ u, e = .returned u ∧ Ni w' u (chL l i) ∧ Below w.heap.size w w' := by
  have HS := Lib.hid h
  obtain ⟨A, cap, rfl⟩ := h.len
  clear h
  have HZ := Lib.hid hz
  go_enter Tryz.func24, Tryz.ntmps24
  go_wp2_with fail
  go_loopw [1, 5, 6] (fun s1 s5 s6 wr => ∃ (f : Nat) (e j : Int) (done : List Nat), s1 = .int .i64 j ∧ s6 = .int .i64 e ∧ Hid (OwnI w.heap.size w s5 done wr) ∧ Hid (done ++ upL l f e j = upL l l.length l.length i) ∧ e ≤ (f : Int) ∧ 0 ≤ e ∧ e ≤ (l.length : Int) ∧ done.length + f ≤ l.length) (fun _ _ s6 _ => (intOf s6).toNat)
  case atStart => exact ⟨l.length, l.length, i, [], rfl, rfl, nilI _ _ _ (Below.refl _ _) (Nat.le_refl _), rfl, by omega, by omega, by omega, by simp⟩
  case round =>
    obtain ⟨f, e, j, done, rfl, rfl, HO, HU, hef, he0, hel, hdl⟩ := hrel
    obtain ⟨A5, n5, c5, h5⟩ := HO.out.shapeC
    subst h5
    by_cases h0 : 0 ≤ j
    · by_cases h1 : j < e
      · obtain ⟨k, rfl⟩ : ∃ k : Nat, j = (k : Int) := ⟨j.toNat, by omega⟩
        obtain ⟨f', rfl, hjf, hstep⟩ := up_step (l := l) hef h0 h1
        have HX := Lib.hid hstep
        have hkl : k < l.length := by omega
        have HP := Lib.hid HO.out.belowC
        obtain ⟨x, o, rfl, hat, -⟩ := HS.out.at k hkl
        have X1 := Lib.hid hat.c1
        have e9 : ((k : Int)).toNat = k := by omega
        rw [e9] at HX
        clear e9
        have hlt : (k : Int) < (l.length : Int) := by omega
        clear hat hstep
        generalize l.getD k default = r at *
        go_wp2_with (first
          | (at_builtin; refine wpList_appI (w := wr.alloc (.cells #[.int .i64 (k : Int)] 3 (0, 0))) rfl (.tmp 22) (.tmp 24) rfl rfl (HO.out.alloc (.cells #[.int .i64 (k : Int)] 3 (0, 0))) (by have := HZ.out; omega) wr.heap.size k rfl (blk_new wr _) ?_; intro v6 w6 h6 hg6; have H6 := Lib.hid h6; have g1 : w6.cell? ⟨x, o + k * 8 + 1, none⟩ = some (.int .i64 r.p) := (by rw [h6.belowC.cell (World.block_lt_of_cell? w _ X1.out)]; exact X1.out); obtain ⟨A6, n6, c6, e6⟩ := h6.shapeC; subst e6; clear h6 hg6))
        go_quiet (fail)
        go_wp2_with fail
        go_roundw
        case rel =>
          refine ⟨f', k, r.p, done ++ [k], rfl, rfl, H6.out.drN ⟨_, rfl⟩, ?_, hjf, h0, by omega, by simp; omega⟩
          show _ = _
          rw [← HU.out, HX.out, List.append_assoc]
          rfl
        case measure => simp [intOf]; omega
      · have E0 : Hid (done.reverse = chL l i) := by
          have := HU.out
          rw [up_stop (by omega), List.append_nil] at this
          show _ = _
          rw [chL, this]
        have HR := Lib.hid (rev42 HO.out (by have := HZ.out; omega))
        rw [E0.out] at HR
        go_wp2_with (first | (go_at_call 42; refine HR.out.mono ?_; rintro e w' ⟨rfl, ho⟩; have HO2 := Lib.hid ho; clear ho))
        go_ret
        exact ⟨_, rfl, HO2.out.ni, HO2.out.belowC⟩
    · have E0 : Hid (done.reverse = chL l i) := by
        have := HU.out
        rw [up_stop (by omega), List.append_nil] at this
        show _ = _
        rw [chL, this]
      have HR := Lib.hid (rev42 HO.out (by have := HZ.out; omega))
      rw [E0.out] at HR
      go_wp2_with (first | (go_at_call 42; refine HR.out.mono ?_; rintro e w' ⟨rfl, ho⟩; have HO2 := Lib.hid ho; clear ho))
      go_ret
      exact ⟨_, rfl, HO2.out.ni, HO2.out.belowC⟩
end Go.Proofs.YtnnmbpghkflepaaGreatDoor
