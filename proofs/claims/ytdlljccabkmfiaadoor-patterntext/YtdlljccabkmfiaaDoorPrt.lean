/-
  pattern.printSeg, Print.
-/
import Derived.Test.YtdlljccabkmfiaaDoorTxt
import Derived.Test.YtdlljccabkmfiaaDoorRight16
namespace Go.Proofs.YtdlljccabkmfiaaDoor
open Go.RowKit Go.PlainAid

def sgT (g : Sg) : ByteArray := st (sgL g)
theorem sgT_1 (t : ByteArray) : sgT (1, t) = ⟨#[58]⟩ ++ t := by
  apply bs_inj
  rw [sgT, bs_st (sg_inR _), bs_append]
  rfl
theorem sgT_2 (t : ByteArray) : sgT (2, t) = ⟨#[58]⟩ ++ t ++ ⟨#[63]⟩ := by
  apply bs_inj
  rw [sgT, bs_st (sg_inR _), bs_append, bs_append]
  show 58 :: (bs t ++ [63]) = (bs ⟨#[58]⟩ ++ bs t) ++ [63]
  rfl
theorem sgT_3 (t : ByteArray) : sgT (3, t) = ⟨#[42]⟩ ++ t := by
  apply bs_inj
  rw [sgT, bs_st (sg_inR _), bs_append]
  rfl
theorem sgT_0 (k : Int) (t : ByteArray) (h1 : k ≠ 1) (h2 : k ≠ 2) (h3 : k ≠ 3) : sgT (k, t) = t := by
  rw [sgT, sgL, if_neg h1, if_neg h2, if_neg h3, st_bs]

set_option maxHeartbeats 800000 in
theorem printSeg40 (g1 : Int) (g2 : ByteArray) (w : World) (hz : g2.size ≤ 1000) : Calls Tryd.prog 40 #[.agg #[.int .i64 g1, .string g2]] w fun e w' => e = .returned (.string (sgT (g1, g2))) ∧ Below w.heap.size w w' := by
  have HB := Lib.hid ((Below.refl w.heap.size w).alloc (Nat.le_refl _) (.cells #[.int .i64 g1, .string g2] 49 (0, 0)))
  have n1 : ¬ 9223372036854775807 < 1 + g2.size := by omega
  have n2 : ¬ 9223372036854775807 < 1 + g2.size + 1 := by omega
  by_cases h1 : g1 = 1
  · subst h1
    rw [sgT_1]
    go_enter Tryd.func40, Tryd.ntmps40
    go_wp2
    go_ret
    exact ⟨rfl, HB.out⟩
  by_cases h2 : g1 = 2
  · subst h2
    rw [sgT_2]
    go_enter Tryd.func40, Tryd.ntmps40
    go_wp2
    go_ret
    exact ⟨rfl, HB.out⟩
  by_cases h3 : g1 = 3
  · subst h3
    rw [sgT_3]
    go_enter Tryd.func40, Tryd.ntmps40
    go_wp2
    go_ret
    exact ⟨rfl, HB.out⟩
  rw [sgT_0 _ _ h1 h2 h3]
  have c1 : (g1 == 1) = false := by simpa using h1
  have c2 : (g1 == 2) = false := by simpa using h2
  have c3 : (g1 == 3) = false := by simpa using h3
  go_enter Tryd.func40, Tryd.ntmps40
  go_wp2
  go_ret
  exact ⟨rfl, HB.out⟩

theorem sg_len (g : Sg) : (sgL g).length ≤ g.2.size + 2 := by
  have := bs_len g.2
  unfold sgL
  split
  · simp; omega
  · split
    · simp; omega
    · split
      · simp; omega
      · omega
theorem pr_len (l : List Sg) (h : ∀ g ∈ l, g.2.size ≤ 16) : (prL l).length ≤ 19 * l.length := by
  induction l with
  | nil => simp [prL]
  | cons g l ih =>
    have h1 := ih (fun x hx => h x (by simp [hx]))
    have h2 := sg_len g
    have h3 := h g (by simp)
    have e : prL (g :: l) = 47 :: sgL g ++ prL l := rfl
    rw [e, List.length_append, List.length_cons, List.length_cons]
    omega
theorem pr_next (l : List Sg) (k : Nat) (h : k < l.length) : st (prL (l.take (k + 1))) = st (prL (l.take k)) ++ (⟨#[47]⟩ ++ sgT (l.getD k default)) := by
  have e : l.take (k + 1) = l.take k ++ [l.getD k default] := by
    rw [List.take_add_one]
    simp only [List.getD, List.getElem?_eq_getElem h, Option.toList_some, Option.getD_some]
  rw [e]
  apply bs_inj
  rw [bs_append, bs_append, sgT, bs_st (pr_inR _), bs_st (pr_inR _), bs_st (sg_inR _)]
  simp only [prL, List.flatMap_append, List.flatMap_cons, List.flatMap_nil, List.append_nil]
  rfl

set_option maxHeartbeats 1600000 in
theorem print20 (v : Value) (l : List Sg) (w : World) (h : Gs w v l) :
    Calls Tryd.prog 20 #[v] w fun e w' => e = .returned (.string (prT l)) ∧ Below w.heap.size w w' := by
  have HG := Lib.hid h
  obtain ⟨A, cap, rfl, hcap, _, hc⟩ := h
  have HC := Lib.hid hc
  clear hc
  by_cases hr : rgB l = true
  · by_cases h0 : l = []
    · subst h0
      have E : Hid (prT [] = ⟨#[47]⟩) := by show _ = _; decide +kernel
      go_enter Tryd.func20, Tryd.ntmps20
      go_wp2_with (first | (go_at_call 16; refine (right16 _ _ _ HG.out).mono ?_; rintro e w6 ⟨rfl, h6⟩; rw [hr]; have H6 := Lib.hid h6; clear h6))
      rw [E.out]
      go_ret
      exact ⟨rfl, H6.out⟩
    · have E : Hid (prT l = st (prL l)) := by show _ = _; rw [prT, if_pos hr, if_neg h0]
      have hp := List.length_pos_iff.2 h0
      have c0 : ¬ (l.length : Int) = 0 := by omega
      have c1 : ((l.length : Int) == 0) = false := by simpa using c0
      have HZ : Hid (∀ g ∈ l, g.2.size ≤ 16) := fun g hg => (tx_all (ok_parts hr hg).1).1.2
      have hl8 := rg_len hr
      clear h0
      go_enter Tryd.func20, Tryd.ntmps20
      go_wp2_with (first | (go_at_call 16; refine (right16 _ _ _ HG.out).mono ?_; rintro e w6 ⟨rfl, h6⟩; rw [hr]; have H6 := Lib.hid h6; clear h6))
      go_loopw [3, 14] (fun t i wr => ∃ (k : Nat), k ≤ l.length ∧ i = .int .i64 k ∧ t = .string (st (prL (l.take k))) ∧ Below w6.heap.size w6 wr) (fun _ i _ => l.length - (intOf i).toNat)
      case atStart => exact ⟨0, Nat.zero_le _, rfl, rfl, Below.refl _ _⟩
      case round =>
        obtain ⟨k, hk, rfl, rfl, hbw⟩ := hrel
        have HW := Lib.hid (H6.out.trans (hbw.mono H6.out.size))
        have HW6 := Lib.hid hbw
        clear hbw
        by_cases hlt : k < l.length
        · have d0 : (k : Int) < (l.length : Int) := by omega
          obtain ⟨x, o, rfl, hcell, hcelb⟩ := HC.out k hlt
          have g1 : wr.cell? ⟨x, o + k * 2, none⟩ = some (.int .i64 (l.getD k default).1) := by rw [HW.out.cell (World.block_lt_of_cell? _ _ hcell)]; exact hcell
          have g3 : wr.cell? ⟨x, o + k * 2 + 1, none⟩ = some (.string (l.getD k default).2) := by rw [HW.out.cell (World.block_lt_of_cell? _ _ hcelb)]; exact hcelb
          have HN := Lib.hid (pr_next l k hlt)
          have hz16 := HZ.out _ (getD_mem l k hlt)
          have htz : (sgT (l.getD k default)).size ≤ 18 := by have := sg_len (l.getD k default); rw [sgT, st_size]; omega
          have hTz : (st (prL (l.take k))).size ≤ 152 := by
            have := pr_len (l.take k) (fun g hg => HZ.out g (List.mem_of_mem_take hg))
            rw [List.length_take] at this
            rw [st_size]; omega
          clear hcell hcelb
          generalize l.getD k default = s at *
          obtain ⟨s1, s2⟩ := s
          simp only at g1 g3 hz16
          generalize st (prL (l.take k)) = T at *
          have HY := Lib.hid (HW6.out.alloc HW6.out.size (.cells #[.int .i64 s1, .string s2] 49 (0, 0)))
          have n1 : ¬ 9223372036854775807 < 1 + (sgT (s1, s2)).size := by omega
          have n2 : ¬ 9223372036854775807 < T.size + (1 + (sgT (s1, s2)).size) := by omega
          go_wp2_with (first | (go_at_call 40; refine (printSeg40 _ _ _ (by omega)).mono ?_; rintro e w' ⟨rfl, hb'⟩; have HB' := Lib.hid hb'; clear hb'))
          go_roundw
          case rel => exact ⟨k + 1, by omega, by go_num, by rw [HN.out], HY.out.trans (HB'.out.mono HY.out.size)⟩
          case measure => simp [intOf]; omega
        · obtain rfl : k = l.length := by omega
          rw [List.take_length]
          go_wp2
          rw [E.out]
          go_ret
          exact ⟨rfl, HW.out⟩
  · have hr : rgB l = false := by simpa using hr
    have E := Lib.hid (pr_wrong hr)
    go_enter Tryd.func20, Tryd.ntmps20
    go_wp2_with (first | (go_at_call 16; refine (right16 _ _ _ HG.out).mono ?_; rintro e w6 ⟨rfl, h6⟩; rw [hr]; have H6 := Lib.hid h6; clear h6))
    rw [E.out]
    go_ret
    exact ⟨rfl, H6.out⟩
end Go.Proofs.YtdlljccabkmfiaaDoor
