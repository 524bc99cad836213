/-
  Which trees are right: rightAttrs, rightNode, rightWithin, Right.
-/
import Derived.Test.YtolklphenllhpaaSor
namespace Go.Proofs.Ytolklphenllhpaa
open Go.RowKit Go.PlainAid
set_option maxRecDepth 100000

/-- attributes that these walks know: one at most, or twice the same -/
def AtS (a : List Pr) : Prop := a.length ≤ 1 ∨ a = [(tX, ⟨#[]⟩), (tX, ⟨#[]⟩)]
theorem size_zero (s : Tx) : (s.toList == (⟨#[]⟩ : Tx).toList) = decide (s.size = 0) := by
  rw [bs_eqd]
  by_cases h : s.size = 0
  · rw [decide_eq_true h]
    exact decide_eq_true (bs_inj (List.eq_nil_of_length_eq_zero (by rw [bs_len]; exact h)))
  · rw [decide_eq_false h]
    exact decide_eq_false (fun e => h (by rw [e]; rfl))
theorem size_nil (s : Tx) : (s.toList == []) = decide (s.size = 0) := by
  rw [← size_zero, show (⟨#[]⟩ : Tx).toList = [] by rw [Lib.toList_data]]

def okP (p : Pr) : Prop := 1 ≤ p.1.size ∧ p.1.size ≤ 64 ∧ p.2.size ≤ 64
def strC (l : List Tx) : List Value := l.map Value.string
theorem strC_one (l : List Tx) : ∀ u ∈ strC l, u.oneCell' = true := by
  intro u hu
  simp only [strC, List.mem_map] at hu
  obtain ⟨x, _, rfl⟩ := hu
  rfl
theorem at_next {a : List Pr} {j : Nat} (h : j < a.length) : a.take (j + 1) = a.take j ++ [a.getD j default] := by
  rw [List.take_add_one]
  simp [List.getD, h]
theorem atB_no {a : List Pr} {j : Nat} (h : j < a.length) (hn : ¬ okP (a.getD j default)) : atB a = false := by
  unfold atB
  rw [show a.all (fun p => decide (1 ≤ p.1.size ∧ p.1.size ≤ 64 ∧ p.2.size ≤ 64)) = false from ?_]
  · rfl
  · rw [List.all_eq_false]
    exact ⟨a.getD j default, by simp [List.getD, h], by simpa [okP] using hn⟩
theorem atB_few {a : List Pr} (h : a.length ≤ 1) (hk : ∀ p ∈ a, okP p) : atB a = true := by
  unfold atB
  rw [show a.all (fun p => decide (1 ≤ p.1.size ∧ p.1.size ≤ 64 ∧ p.2.size ≤ 64)) = true from List.all_eq_true.2 (fun p hp => by have := hk p hp; unfold okP at this; simpa using this), Bool.true_and]
  apply decide_eq_true
  match a, h with
  | [], _ => simp
  | [p], _ => simp
theorem atB_two : atB [(tX, ⟨#[]⟩), (tX, ⟨#[]⟩)] = false := by
  unfold atB
  rw [show decide ((([(tX, ⟨#[]⟩), (tX, ⟨#[]⟩)] : List Pr).map Prod.fst).Nodup) = false from decide_eq_false (by simp)]
  exact Bool.and_false _

theorem owns_sh {w : World} {B n size : Nat} {e : TypeId} {v : Value} {xs : List Value} (h : w.ownsRow B e size v n xs) : ∃ A c, v = .slice A n c ∧ n ≤ c := by
  rcases h.2 with ⟨rfl, rfl⟩ | ⟨g, cap, cur, rfl, _, _, h4, _⟩
  · exact ⟨none, 0, rfl, by omega⟩
  · exact ⟨_, _, rfl, h4⟩
theorem owns_two {w : World} {B c : Nat} {e : TypeId} {A : Option Addr} {x y : Value} (h : w.ownsRow B e 1 (.slice A 2 c) 2 [x, y]) : ∃ cs g, A = some ⟨g, 0, none⟩ ∧ B ≤ g ∧ w.heap[g]? = some (.cells cs e (0, 0)) ∧ cs[0]? = some x ∧ cs[1]? = some y ∧ 2 ≤ c := by
  have hc := @World.ownsRow.cells _ _ _ _ _ _ _ h
  rcases h.2 with ⟨e1, h0⟩ | ⟨g, cap, cur, e1, hB, hg, h4, h5, h6⟩
  · cases h0
  · cases e1
    have g0 := hc rfl 0 x rfl
    have g1 := hc rfl 1 y rfl
    rw [add_lit'] at g0 g1
    have e0 := blk_cell hg (0 + 0)
    have e1 := blk_cell hg (0 + 1)
    rw [e0] at g0
    rw [e1] at g1
    exact ⟨cur, g, rfl, hB, hg, g0, g1, h4⟩
set_option maxHeartbeats 12800000 in
theorem rightAttrs30 (v : Value) (a : List Pr) (w : World) (h : Ps w v a) (ha : AtS a) : Calls Try.prog 30 #[v] w fun e w' => e = .returned (.bool (atB a)) ∧ Below w.heap.size w w' := by
  obtain ⟨A, cap, rfl, _, _, hc⟩ := h
  have HC := Lib.hid hc
  have HS := Lib.hid ha
  have hl : a.length ≤ 2 := by
    rcases ha with h | h
    · omega
    · rw [h]; simp
  clear hc ha
  go_enter Try.func30, Try.ntmps30
  go_wp2_with fail
  go_loopw [3, 8] (fun p3 p8 wr => ∃ (j : Nat) (N : Option Addr) (c : Nat), j ≤ a.length ∧ p3 = .slice N j c ∧ p8 = .int .i64 j ∧ Hid (∀ p ∈ a.take j, okP p) ∧ Hid (wr.ownsRow w.heap.size 9 1 (.slice N j c) j (strC ((a.take j).map Prod.fst))) ∧ Hid (Below w.heap.size w wr)) (fun _ p _ => a.length - (intOf p).toNat)
  case atStart => exact ⟨0, none, 0, Nat.zero_le _, rfl, rfl, fun p hp => by simp at hp, World.ownsRow_nil _ _ _ _, Below.refl _ _⟩
  case round =>
    obtain ⟨j, N, c, hj, rfl, rfl, HK, HO, BW⟩ := hrel
    by_cases hlt : j < a.length
    · have d0 : (j : Int) < (a.length : Int) := by omega
      obtain ⟨b, o, rfl, hcell, hcelb⟩ := HC.out j hlt
      have g1 : wr.cell? ⟨b, o + j * 2, none⟩ = some (.string (a.getD j default).1) := by rw [BW.out.cell (World.block_lt_of_cell? _ _ hcell)]; exact hcell
      have g2 : wr.cell? ⟨b, o + j * 2 + 1, none⟩ = some (.string (a.getD j default).2) := by rw [BW.out.cell (World.block_lt_of_cell? _ _ hcelb)]; exact hcelb
      clear hcell hcelb
      have HA := Lib.hid (at_next hlt)
      have HN := Lib.hid (@atB_no a j hlt)
      generalize a.getD j default = p at *
      obtain ⟨s, t⟩ := p
      have BX := Lib.hid (BW.out.alloc BW.out.size (.cells #[.string s, .string t] 23 (0, 0)))
      simp only at g1 g2
      have q1 := size_nil s
      by_cases e1 : s.size = 0
      · rw [decide_eq_true e1] at q1
        have E : Hid (atB a = false) := HN.out (fun h => by have := h.1; simp only at this; omega)
        clear e1 HN
        go_wp2
        go_ret
        exact ⟨by rw [E.out]; rfl, BX.out⟩
      · rw [decide_eq_false e1] at q1
        by_cases e2 : (64 : Int) < (s.size : Int)
        · have E : Hid (atB a = false) := HN.out (fun h => by have := h.2.1; simp only at this; omega)
          clear e1 HN
          go_wp2
          go_ret
          exact ⟨by rw [E.out]; rfl, BX.out⟩
        by_cases e3 : (64 : Int) < (t.size : Int)
        · have E : Hid (atB a = false) := HN.out (fun h => by have := h.2.2; simp only at this; omega)
          clear e1 HN
          go_wp2
          go_ret
          exact ⟨by rw [E.out]; rfl, BX.out⟩
        have OK : Hid (∀ x ∈ a.take (j + 1), okP x) := by
          intro x hx
          rw [HA.out, List.mem_append, List.mem_singleton] at hx
          rcases hx with hx | rfl
          · exact HK.out x hx
          · exact ⟨by simp only; omega, by simp only; omega, by simp only; omega⟩
        have XA : Hid (strC ((a.take j).map Prod.fst) ++ [.string s] = strC ((a.take (j + 1)).map Prod.fst)) := by
          unfold Hid strC; rw [HA.out]; simp
        have OX := Lib.hid (((HO.out.alloc (.cells #[.string s, .string t] 23 (0, 0))).alloc (.cells #[.string s] 9 (0, 0))))
        have BZ := Lib.hid (BX.out.alloc (by have := BX.out.size; simpa using this) (.cells #[.string s] 9 (0, 0)))
        clear HN HA HK
        go_wp2_with (at_builtin; go_loud (refine wpList_app elS _ rfl _ _ rfl w.heap.size (.slice N j c) j _ rfl OX.out (by have := BZ.out.size; simpa using this) ⟨wr.heap.size + 1, 0, none⟩ 1 1 [.string s] rfl rfl (World.news_of_block (blk_new1 wr _ _)) (strC_one [s]) (by omega) (by omega) ?_); intro v14 w14 h14 hg14 hv14)
        have B14 := Lib.hid (BZ.out.grown hg14 (by have := BZ.out.size; simpa using this) (fun k hk => (OX.out.lt k hk).1))
        rw [XA.out] at h14
        obtain ⟨A14, c14, rfl, _⟩ := owns_sh h14
        have O14 := Lib.hid h14
        clear h14 hg14 hv14
        go_roundw
        case rel => exact ⟨j + 1, A14, c14, by omega, rfl, by go_num, OK, O14, B14⟩
        case measure => simp [intOf]; omega
    · obtain rfl : j = a.length := by omega
      rw [List.take_length] at HK HO
      by_cases h1 : a.length ≤ 1
      · have F : Few wr (.slice N a.length c) a.length := by
          obtain ⟨A', c', e, hc'⟩ := owns_sh HO.out
          cases e
          exact ⟨_, _, rfl, hc', .inl h1⟩
        have E : Hid (atB a = true) := atB_few h1 HK.out
        go_wp2_with fail
        refine (sort31 _ _ _ F).mono ?_
        rintro e w5 ⟨rfl, hb5⟩
        go_wp2_with fail
        refine (compact_few _ _ _ h1 (F.below hb5)).mono ?_
        rintro e w6 ⟨rfl, hb6⟩
        have B6 := Lib.hid (BW.out.trans ((hb5.trans (hb6.mono hb5.size)).mono BW.out.size))
        clear hb5 hb6
        go_wp2
        go_ret
        exact ⟨by rw [E.out]; rfl, B6.out⟩
      · obtain rfl : a = [(tX, ⟨#[]⟩), (tX, ⟨#[]⟩)] := HS.out.resolve_left h1
        obtain ⟨cs, g, rfl, hB, hg, h0, h1', hc2⟩ := owns_two HO.out
        have F : Few wr (.slice (some ⟨g, 0, none⟩) 2 c) 2 := ⟨_, _, rfl, hc2, .inr ⟨rfl, g, rfl, by rw [blk_cell hg]; exact h0, by rw [blk_cell hg]; exact h1'⟩⟩
        go_wp2_with fail
        refine (sort31 _ 2 _ F).mono ?_
        rintro e w5 ⟨rfl, hb5⟩
        go_wp2_with fail
        refine (compact_two g c cs 9 _ hc2 (blk_call hg hb5) h0 h1').mono ?_
        rintro e w6 ⟨rfl, hk6⟩
        have B5 := BW.out.trans (hb5.mono BW.out.size)
        have B6 := Lib.hid (B5.trans (hk6.below B5.size (fun k hk e => by omega)))
        clear hb5 hk6 B5
        go_wp2
        go_ret
        exact ⟨by rw [atB_two]; rfl, B6.out⟩
end Go.Proofs.Ytolklphenllhpaa
