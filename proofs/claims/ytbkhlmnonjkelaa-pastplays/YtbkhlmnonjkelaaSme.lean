/-
  porticobook.Same at entries.
-/
import Derived.Test.YtbkhlmnonjkelaaMti
import Derived.Lib.Strings
import Derived.Lib.Bytes
namespace Go.Proofs.Ytbkhlmnonjkelaa
open Go.RowKit Go.PlainAid
set_option maxRecDepth 100000

theorem take_eq_next {α : Type} [Inhabited α] {a b : List α} {k : Nat} (h : a.take k = b.take k) (h1 : k < a.length) (h2 : k < b.length) (he : a.getD k default = b.getD k default) : a.take (k + 1) = b.take (k + 1) := by
  rw [List.take_add_one, List.take_add_one, h]
  simp only [List.getD, List.getElem?_eq_getElem h1, List.getElem?_eq_getElem h2, Option.getD_some] at he
  rw [List.getElem?_eq_getElem h1, List.getElem?_eq_getElem h2, he]
theorem ne_at {α : Type} [Inhabited α] {a b : List α} {k : Nat} (he : ¬ a.getD k default = b.getD k default) : ¬ a = b := fun h => he (by rw [h])
theorem bs_eq (s t : ByteArray) : (s.toList == t.toList) = decide (s = t) := by
  by_cases h : s = t
  · subst h; simp
  · rw [decide_eq_false h, beq_eq_false_iff_ne]
    intro e
    rw [Lib.toList_data, Lib.toList_data] at e
    exact h (ByteArray.ext (Array.toList_inj.1 e))
theorem str_beq (s t : ByteArray) (h : s = t) : (s.toList == t.toList) = true := by rw [h]; simp
theorem str_bne (s t : ByteArray) (h : ¬ s = t) : (s.toList == t.toList) = false := by rw [bs_eq]; exact decide_eq_false h

theorem en_beq (s t : En) (h : s = t) : (s.1.toList == t.1.toList) = true ∧ (s.2 == t.2) = true := by rw [h]; simp
theorem en_bne (s t : En) (h : ¬ s = t) : (s.1.toList == t.1.toList) = false ∨ ((s.1.toList == t.1.toList) = true ∧ (s.2 == t.2) = false) := by
  by_cases h1 : s.1 = t.1
  · exact Or.inr ⟨str_beq _ _ h1, by simpa using fun h2 => h (Prod.ext h1 h2)⟩
  · exact Or.inl (str_bne _ _ h1)

set_option maxHeartbeats 1600000 in
theorem same11 (v1 v2 : Value) (a b : List En) (w : World) (h1 : Es w v1 a) (h2 : Es w v2 b) (hz : a.length ≤ 1000000000) :
    Calls Try.prog 11 #[v1, v2] w fun e w' => e = .returned (.bool (decide (a = b))) ∧ Below w.heap.size w w' := by
  obtain ⟨A, cap, rfl, _, _, hc⟩ := h1
  obtain ⟨A2, cap2, rfl, _, _, hc2⟩ := h2
  have HC := Lib.hid hc
  have HC2 := Lib.hid hc2
  clear hc hc2
  by_cases hl : a.length = b.length
  · have HL := Lib.hid hl
    have c0 : ((a.length : Int) == (b.length : Int)) = true := by simp; omega
    clear hl
    go_enter Try.func11, Try.ntmps11
    go_wp2_with fail
    (try rw [c0])
    clear c0
    go_loopw [5] (fun i wr => ∃ (k : Nat), k ≤ a.length ∧ i = .int .i64 k ∧ a.take k = b.take k ∧ Below w.heap.size w wr) (fun i _ => a.length - (intOf i).toNat)
    case atStart => exact ⟨0, Nat.zero_le _, rfl, rfl, Below.refl _ _⟩
    case round =>
      obtain ⟨k, hk, rfl, ht, hbw⟩ := hrel
      have HT := Lib.hid ht
      have HW := Lib.hid hbw
      have hl2 := HL.out
      clear ht hbw
      by_cases hlt : k < a.length
      · have d0 : (k : Int) < (a.length : Int) := by omega
        have d1 : (k : Int) < (b.length : Int) := by omega
        have HX := Lib.hid (take_eq_next HT.out hlt (by omega))
        have HY := Lib.hid (@ne_at _ _ a b k)
        obtain ⟨x, o, rfl, hcell, hcelb⟩ := HC.out k hlt
        obtain ⟨x2, o2, rfl, hcell2, hcelb2⟩ := HC2.out k (by omega)
        have g1 : wr.cell? ⟨x, o + k * 2, none⟩ = some (.string (a.getD k default).1) := by rw [HW.out.cell (World.block_lt_of_cell? _ _ hcell)]; exact hcell
        have g2 : wr.cell? ⟨x2, o2 + k * 2, none⟩ = some (.string (b.getD k default).1) := by rw [HW.out.cell (World.block_lt_of_cell? _ _ hcell2)]; exact hcell2
        have g3 : wr.cell? ⟨x, o + k * 2 + 1, none⟩ = some (.int .u64 (a.getD k default).2) := by rw [HW.out.cell (World.block_lt_of_cell? _ _ hcelb)]; exact hcelb
        have g4 : wr.cell? ⟨x2, o2 + k * 2 + 1, none⟩ = some (.int .u64 (b.getD k default).2) := by rw [HW.out.cell (World.block_lt_of_cell? _ _ hcelb2)]; exact hcelb2
        clear hcell hcell2 hcelb hcelb2
        clear hl2
        generalize a.getD k default = s at *
        generalize b.getD k default = t at *
        by_cases hst : s = t
        · obtain ⟨q1, q2⟩ := en_beq s t hst
          obtain ⟨s, s'⟩ := s
          obtain ⟨t, t'⟩ := t
          simp only at q1 q2 g1 g2 g3 g4
          have HST := Lib.hid hst
          clear hst
          go_wp2_with fail
          go_region
          go_wp2_with fail
          go_roundw
          case rel => exact ⟨k + 1, by omega, by go_num, HX.out HST.out, HW.out.drew⟩
          case measure => simp [intOf]; omega
        · have e0 : decide (a = b) = false := decide_eq_false (HY.out hst)
          have E0 := Lib.hid e0
          have hq := en_bne s t hst
          clear e0 hst HX HY
          obtain ⟨s, s'⟩ := s
          obtain ⟨t, t'⟩ := t
          simp only at hq g1 g2 g3 g4
          rcases hq with q1 | ⟨q1, q2⟩
          all_goals
            go_wp2_with fail
            go_region
            go_wp2
            rw [E0.out]
            go_ret
            exact ⟨rfl, HW.out.drew⟩
      · obtain rfl : k = a.length := by omega
        have e0 : decide (a = b) = true := by
          have := HT.out
          rw [List.take_length, hl2, List.take_length] at this
          exact decide_eq_true this
        have E0 := Lib.hid e0
        clear e0 hl2
        go_wp2
        rw [E0.out]
        go_ret
        exact ⟨rfl, HW.out⟩
  · have c0 : ¬ (a.length : Int) = (b.length : Int) := by omega
    have c1 : ((a.length : Int) == (b.length : Int)) = false := by simpa using c0
    have e0 : decide (a = b) = false := decide_eq_false (fun h => hl (by rw [h]))
    have E0 := Lib.hid e0
    clear e0
    go_enter Try.func11, Try.ntmps11
    go_wp2
    rw [E0.out]
    go_ret
    exact ⟨rfl, Below.refl _ _⟩

end Go.Proofs.Ytbkhlmnonjkelaa
