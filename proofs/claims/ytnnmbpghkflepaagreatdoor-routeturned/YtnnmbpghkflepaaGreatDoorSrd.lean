/-
  rank's Sorted, walked.
-/
import Derived.Test.YtnnmbpghkflepaaGreatDoorSrt
import Derived.Deep.OwnRows
import Derived.Deep.CutBlock
import Derived.Deep.DeepCutAuto
namespace Go.Proofs.YtnnmbpghkflepaaGreatDoor
open Go.RowKit Go.PlainAid
set_option maxRecDepth 100000

theorem info3 : (Tryz.prog.info? 3).map (fun i => (i.zero, i.size, i.bytes)) = some (some (.int .i64 0), 1, 8) := by kernel_rfl

/-- the slice holds these numbers -/
def Ni (w : World) (v : Value) (ps : List Nat) : Prop :=
  ∃ A cap, v = .slice A ps.length cap ∧ ps.length ≤ cap ∧ (A = none → cap = 0) ∧ ∀ i, i < ps.length → ∃ b o, A = some ⟨b, o, none⟩ ∧ w.cell? ⟨b, o + i, none⟩ = some (.int .i64 (ps.getD i 0 : Nat))
theorem Ni.call {w w' : World} {v : Value} {ps : List Nat} (h : Ni w v ps) (hb : Below w.heap.size w w') : Ni w' v ps := by
  obtain ⟨A, cap, h1, h2, h3, h4⟩ := h
  refine ⟨A, cap, h1, h2, h3, fun i hi => ?_⟩
  obtain ⟨b, o, ha, hc⟩ := h4 i hi
  exact ⟨b, o, ha, by rw [hb.cell (World.block_lt_of_cell? w _ hc)]; exact hc⟩
theorem Ni.shape {w : World} {v : Value} {ps : List Nat} (h : Ni w v ps) : ∃ A n c, v = .slice A n c := by
  obtain ⟨A, cap, e, _⟩ := h
  exact ⟨_, _, _, e⟩
theorem Places.len {ls : List (List Sg)} {ps : List Nat} (h : Places ls ps) : ps.length = ls.length := by
  have := h.1.length_eq
  simpa using this

theorem box_len {w : World} {v : Value} {ls : List (List Sg)} (h : Gss w v ls) : ∃ A c, v = .slice A ls.length c := by
  obtain ⟨A, cap, e, _⟩ := h
  exact ⟨_, _, e⟩

set_option maxHeartbeats 3200000 in
theorem sorted11 (v : Value) (ls : List (List Sg)) (w : World) (hg : Gss w v ls) (h12 : ls.length ≤ 1000) (hf : Few ls) :
    Calls Tryz.prog 44 #[v] w fun e w' => ∃ u ps, e = .returned u ∧ Ni w' u ps ∧ Places ls ps ∧ Below w.heap.size w w' ∧ ∀ b o n c, u = .slice (some ⟨b, o, none⟩) n c → w.heap.size ≤ b := by
  obtain ⟨A, c, rfl⟩ := box_len hg
  have HG := Lib.hid hg
  have HF := Lib.hid hf
  clear hg hf
  obtain ⟨n, hn⟩ : ∃ n, n = ls.length := ⟨_, rfl⟩
  rw [← hn] at h12 ⊢
  have HNl := Lib.hid hn
  clear hn
  rw [← HNl.out] at HG
  have HX := Lib.hid (blk_new w (.cells #[.slice A n c] 66 (0, 0)))
  have HB1 := Lib.hid ((Below.refl w.heap.size w).alloc (Nat.le_refl _) (.cells #[.slice A n c] 66 (0, 0)))
  have HG1 := Lib.hid (HG.out.call HB1.out)
  have x0 : (w.alloc (.cells #[.slice A n c] 66 (0, 0))).cell? ⟨w.heap.size, 0, none⟩ = some (.slice A n c) := by rw [blk_cell HX.out]; rfl
  have hsz : (w.alloc (.cells #[.slice A n c] 66 (0, 0))).heap.size = w.heap.size + 1 := by simp
  have HX0 := Lib.hid x0
  obtain ⟨i0, hi, hz0, hz1, hz2⟩ := info_parts info3
  have hby : i0.bytes * n ≤ 281474976710656 := by rw [hz2]; omega
  go_enter Tryz.func44, Tryz.ntmps44
  go_upto_region 2 with (at_make; refine wpList_make_row _ rfl _ _ 23 rfl 3 i0 (.int .i64 0) Tryz.underlying23 hi hz0 hz1 rfl .i64 .i64 n rfl rfl hby (by omega) ?_)
  clear hi hz0 hz1 hz2 hby i0
  have R1 := Lib.hid (World.rowIs_made (w.alloc (.cells #[.slice A n c] 66 (0, 0))) (.int .i64 0) n 3)
  have HB2 := Lib.hid ((Below.refl (w.alloc (.cells #[.slice A n c] 66 (0, 0))).heap.size (w.alloc (.cells #[.slice A n c] 66 (0, 0)))).alloc (Nat.le_refl _) (.cells (madeCells #[.int .i64 0] n) 3 (0, 0)))
  rw [hsz] at R1 HB2
  generalize (w.alloc (.cells #[.slice A n c] 66 (0, 0))).alloc (.cells (madeCells #[.int .i64 0] n) 3 (0, 0)) = w2 at *
  generalize w.alloc (.cells #[.slice A n c] 66 (0, 0)) = w1 at *
  have HS := Lib.hid hsz
  clear x0 hsz
  generalize hNN : w.heap.size + 1 = N at *
  have HNN := Lib.hid hNN
  clear hNN
  go_wp2_with fail
  go_loopw [10] (fun i wr => ∃ (k : Nat), k ≤ n ∧ i = .int .i64 k ∧ wr.rowIs N 3 n (fun j => if j < k then .int .i64 j else .int .i64 0) ∧ Below N w1 wr) (fun i _ => n - (intOf i).toNat)
  case atStart => exact ⟨0, Nat.zero_le _, rfl, R1.out.congr (fun i hi => by simp), HB2.out⟩
  case round =>
    obtain ⟨k, hk, rfl, hrow, hbw⟩ := hrel
    have HR := Lib.hid hrow
    have HBW := Lib.hid hbw
    clear hrow hbw
    by_cases hlt : k < n
    · have d0 : (k : Int) < (n : Int) := by omega
      have c1 := HR.out.cell hlt
      have c2 := HR.out.frozen k
      go_wp2_with fail
      go_roundw
      case rel =>
        refine ⟨k + 1, by omega, by go_num, (HR.out.set k _).congr (fun j hj => ?_), HBW.out.setCell (Nat.le_refl _) _⟩
        by_cases e1 : j = k
        · subst e1
          simp
        · by_cases e2 : j < k
          · simp [e1, e2, show j < k + 1 by omega]
          · simp [e1, e2, show ¬ j < k + 1 by omega]
      case measure => simp [intOf]; omega
    · obtain rfl : k = n := by omega
      have HBw : Hid (Below w1.heap.size w1 wr) := by rw [HS.out]; exact HBW.out
      by_cases h0 : k = 0
      · subst h0
        go_wp2_with (first | (go_at_call 62; refine (sort20_none _ _ _ _).mono ?_; rintro e w' ⟨rfl, hw⟩; subst hw))
        go_ret
        have e0 : ls = [] := List.eq_nil_of_length_eq_zero HNl.out.symm
        refine ⟨_, [], rfl, ⟨_, 0, rfl, Nat.le_refl _, (fun _ => rfl), fun i hi => by simp at hi⟩, ?_, HB1.out.trans (HBw.out.mono HB1.out.size), fun b o n c e => by cases e; have := HNN.out; omega⟩
        rw [e0]
        exact ⟨by simp, List.Pairwise.nil⟩
      · have hS := sort20 ls k N k w.heap.size (.slice A k c) w1 wr (by omega) HNl.out.symm h12 HX0.out HG1.out HF.out HBw.out (by rw [HS.out]; exact Nat.le_refl _) (fun j hj => ⟨by rw [HR.out.cell hj]; simp [hj], HR.out.frozen j⟩)
        go_wp2_with (first | (go_at_call 62; refine hS.mono ?_; rintro e w' ⟨rfl, hps⟩; have HPS := Lib.hid hps; clear hps))
        go_ret
        obtain ⟨ps, hp, hcell, hbb⟩ := HPS.out
        have hl := hp.len
        rw [← HNl.out] at hl
        refine ⟨_, ps, rfl, ⟨_, k, by rw [hl]; rfl, by omega, (fun e => by cases e), fun i hi => ⟨N, 0, rfl, ?_⟩⟩, hp, HB1.out.trans (hbb.mono HB1.out.size), fun b o n c e => by cases e; have := HNN.out; omega⟩
        rw [Nat.zero_add]
        exact hcell i (by omega)
end Go.Proofs.YtnnmbpghkflepaaGreatDoor
