/-
  A dom that calls turn, whichever: what stays known of it.
-/
import Derived.Test.YtdbnhpghemlkbaaRuns
namespace Go.Proofs.Ytdbnhpghemlkbaa
open Go.RowKit Go.PlainAid Dm
set_option maxRecDepth 100000

theorem count_eq {s : St} (h : Inv s) : s.count + s.freed.length = s.top := by
  have hl : ∀ (l : List Nat), (l.filter (fun i => (s.nd i).live)).length + (l.filter (fun i => !(s.nd i).live)).length = l.length := by
    intro l
    induction l with
    | nil => rfl
    | cons a l ih =>
      simp only [List.filter_cons]
      cases (s.nd a).live
      · simp only [Bool.not_false, if_true, List.length_cons, Bool.false_eq_true, if_false]
        omega
      · simp only [Bool.not_true, if_true, List.length_cons, Bool.false_eq_true, if_false]
        omega
  have h1 := hl s.ids
  have h2 : s.ids.length = s.top := by unfold St.ids; simp
  have hm : ∀ j, j ∈ s.ids.filter (fun i => !(s.nd i).live) ↔ j ∈ s.freed := by
    intro j
    rw [List.mem_filter, h.free.2, mem_ids]
    simp only [Bool.not_eq_true']
    exact and_assoc
  have h3 : (s.ids.filter (fun i => !(s.nd i).live)).length = s.freed.length :=
    Nat.le_antisymm (length_le_of_sub ((nodup_ids s).filter _) (fun x hx => (hm x).1 hx)) (length_le_of_sub h.free.1 (fun x hx => (hm x).2 hx))
  unfold St.count
  omega

/-- the call's own dom, in whatever state -/
def Gs (w0 : World) (D n : Nat) (w : World) : Prop := ∃ s ro, Mine mP ro D s w0.heap.size w0 w ∧ Inv s ∧ Fit s ∧ s.top ≤ n
theorem Gs.bw {w0 w : World} {D n : Nat} (h : Gs w0 D n w) : Below w0.heap.size w0 w := by
  obtain ⟨s, ro, h, _⟩ := h
  exact h.2.2.1
theorem Gs.call {w0 w w' : World} {D n : Nat} (h : Gs w0 D n w) (hb : Below w.heap.size w w') : Gs w0 D n w' := by
  obtain ⟨s, ro, h, h2⟩ := h
  exact ⟨s, ro, h.call hb, h2⟩
theorem Gs.mono {w0 w : World} {D n m : Nat} (h : Gs w0 D n w) (hm : n ≤ m) : Gs w0 D m w := by
  obtain ⟨s, ro, h, h2, h3, h4⟩ := h
  exact ⟨s, ro, h, h2, h3, Nat.le_trans h4 hm⟩
theorem out_top (s : St) (i : Nat) : (s.out i).top = s.top := rfl
theorem ins_top (s : St) (p c : Nat) (a : Int) : (s.insert p c a).top = s.top := by
  unfold St.insert St.loosen
  split <;> rfl
/-- a call's answer: a bool, whichever -/
def BoolP (w0 : World) (D n : Nat) (e : Ending) (w' : World) : Prop := ∃ b : Bool, e = .returned (.bool b) ∧ Gs w0 D n w'
theorem gs_el {w0 w : World} {D n : Nat} (h : Gs w0 D n w) (hn : n ≤ 1000) (tag key : ByteArray) :
    Calls Try.prog 8 #[.pointer (some ⟨D, 0, none⟩), .string tag, .string key] w fun e w' => ∃ k : Nat, k ≤ n + 1 ∧ e = .returned (.int .i64 (k : Nat)) ∧ Gs w0 D (n + 1) w' := by
  obtain ⟨s, ro, h, hv, hf, ht⟩ := h
  refine (element8 tag key w h.1 hv (by omega)).mono ?_
  rintro e w' ⟨rfl, TU⟩
  obtain ⟨ro', h'⟩ := h.turn TU
  have hfr : s.fresh ≤ s.top + 1 ∧ (s.make (newNd tag key ⟨#[]⟩)).top ≤ s.top + 1 := by
    unfold St.fresh St.make
    cases e : s.freed with
    | nil => exact ⟨Nat.le_refl _, Nat.le_refl _⟩
    | cons i l =>
      have := ((hv.free.2 i).1 (by rw [e]; simp)).2.1
      exact ⟨Nat.le_succ_of_le this, Nat.le_succ _⟩
  exact ⟨_, by omega, rfl, _, ro', h', inv_new_node hv _ _ _, fit_newNd hf _ _ _, by omega⟩
theorem gs_ins {w0 w : World} {D n : Nat} (h : Gs w0 D n w) (hn : n ≤ 1000) (a b t : Int) :
    Calls Try.prog 10 #[.pointer (some ⟨D, 0, none⟩), .int .i64 a, .int .i64 b, .int .i64 t] w (BoolP w0 D n) := by
  obtain ⟨s, ro, h, hv, hf, ht⟩ := h
  by_cases hm : s.mayInsert a b
  · obtain ⟨p, rfl, _, _, _⟩ := lives_nat hv hm.1
    obtain ⟨c, rfl, _, _, _⟩ := lives_nat hv hm.2.1
    refine (insert10_yes p c t w h.1 hv hm (by omega)).mono ?_
    rintro e w' ⟨rfl, TU⟩
    obtain ⟨ro', h'⟩ := h.turn TU
    have hi := inv_insert hv hm t
    rw [Int.toNat_natCast, Int.toNat_natCast] at hi
    exact ⟨true, rfl, _, ro', h', hi, fit_insert hf _ _ _, by rw [ins_top]; exact ht⟩
  · refine (insert10_no a b t w h.1 hv hm).mono ?_
    rintro e w' ⟨rfl, hb⟩
    exact ⟨false, rfl, s, ro, h.call hb, hv, hf, ht⟩
theorem gs_det {w0 w : World} {D n : Nat} (h : Gs w0 D n w) (hn : n ≤ 1000) (a : Int) :
    Calls Try.prog 13 #[.pointer (some ⟨D, 0, none⟩), .int .i64 a] w (BoolP w0 D n) := by
  obtain ⟨s, ro, h, hv, hf, ht⟩ := h
  by_cases hm : s.mayDetach a
  · obtain ⟨p, rfl, _, _, _⟩ := lives_nat hv hm.1
    refine (detach13_yes p w h.1 hv hm (by omega)).mono ?_
    rintro e w' ⟨rfl, TU⟩
    obtain ⟨ro', h'⟩ := h.turn TU
    have hi := inv_detach hv hm
    rw [Int.toNat_natCast] at hi
    exact ⟨true, rfl, _, ro', h', hi, fit_out hf _, by rw [out_top]; exact ht⟩
  · refine (detach13_no a w h.1 hv hm).mono ?_
    rintro e w' ⟨rfl, hb⟩
    exact ⟨false, rfl, s, ro, h.call hb, hv, hf, ht⟩
theorem gs_free {w0 w : World} {D n : Nat} (h : Gs w0 D n w) (hn : n ≤ 1000) (a : Int) :
    Calls Try.prog 14 #[.pointer (some ⟨D, 0, none⟩), .int .i64 a] w (BoolP w0 D n) := by
  obtain ⟨s, ro, h, hv, hf, ht⟩ := h
  by_cases hm : s.mayFree a
  · obtain ⟨p, rfl, _, _, _⟩ := lives_nat hv hm.1
    obtain ⟨L, hL⟩ := pres_ex hv [p]
    refine (free14_yes p L w h.1 hv hm hL (by omega)).mono ?_
    rintro e w' ⟨rfl, TU⟩
    obtain ⟨ro', h'⟩ := h.turn TU
    have hi := inv_free hv hm (L := L) (by rw [Int.toNat_natCast]; exact hL)
    exact ⟨true, rfl, _, ro', h', hi, fit_drop hf _, ht⟩
  · refine (free14_no a w h.1 hv hm).mono ?_
    rintro e w' ⟨rfl, hb⟩
    exact ⟨false, rfl, s, ro, h.call hb, hv, hf, ht⟩
end Go.Proofs.Ytdbnhpghemlkbaa
