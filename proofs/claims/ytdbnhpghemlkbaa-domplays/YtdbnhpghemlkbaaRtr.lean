/-
  The reference: Tree.
-/
import Derived.Test.YtdbnhpghemlkbaaRfa
import Derived.Test.YtdbnhpghemlkbaaTr2
import Derived.Deep.CutBlock
import Derived.Deep.DeepCutAuto
namespace Go.Proofs.Ytdbnhpghemlkbaa
open Go.RowKit Go.PlainAid Dm
set_option maxRecDepth 100000

theorem tree_end3 {w3 : World} {T : Nat} {tmps : Array Value} {u0 u1 u2 u3 u4 : Value} {b : Bool} {Q : Ending → World → Prop} (ht : tmps.getD 4 undef = .pointer (some ⟨T, 0, none⟩)) (h5 : tmps.getD 5 undef = .bool b) (hT : w3.heap[T]? = some (.cells #[u0, u1, u2, u3, u4] 31 (0, 0))) (hq : Q (.returned (.tuple #[.agg #[u0, u1, u2, u3, u4], .bool b])) w3) :
    bodyPost Try.prog Try.f49 Q .ret { tmps := tmps, defers := [] } w3 := by
  have k0 := blk_cell hT 0
  have k1 := blk_cell hT 1
  have k2 := blk_cell hT 2
  have k3 := blk_cell hT 3
  have k4 := blk_cell hT 4
  simp at k0 k1 k2 k3 k4
  refine bodyPost_ret (v := .tuple #[.agg #[u0, u1, u2, u3, u4], .bool b]) ?_ rfl hq
  rw [results_cell_tmp rfl, ht, h5]
  go_simp


section
variable {D : Nat} {s : St}
set_option maxHeartbeats 3200000 in
theorem tree49_no {ro : Ros} (i : Int) (w : World) (h : Dom mR ro w D s) (hv : Inv s) (hl : s.lives i = false) :
    Calls Try.prog 49 #[.pointer (some ⟨D, 0, none⟩), .int .i64 i] w (NoT w) := by
  have B0 := Lib.hid ((Below.refl _ w).alloc (Nat.le_refl _) (.cells #[.string ⟨#[]⟩, .string ⟨#[]⟩, .string ⟨#[]⟩, .slice none 0 0, .slice none 0 0] 31 (0, 0)))
  have TB := Lib.hid (blk_new w (.cells #[.string ⟨#[]⟩, .string ⟨#[]⟩, .string ⟨#[]⟩, .slice none 0 0, .slice none 0 0] 31 (0, 0)))
  have G := Lib.hid (lives43 i _ (h.call B0.out) hv)
  clear h hv
  go_enter Try.func49, Try.ntmps49
  go_wp2_with fail
  generalize w.alloc _ = w1 at *
  refine G.out.mono ?_
  rintro e w2 ⟨rfl, rfl⟩
  rw [hl]
  have y0 := blk_cell TB.out 0
  have y1 := blk_cell TB.out 1
  have y2 := blk_cell TB.out 2
  have y3 := blk_cell TB.out 3
  have y4 := blk_cell TB.out 4
  have f0 := blk_frozen TB.out 0
  have f1 := blk_frozen TB.out 1
  have f2 := blk_frozen TB.out 2
  have f3 := blk_frozen TB.out 3
  have f4 := blk_frozen TB.out 4
  simp at y0 y1 y2 y3 y4
  go_wp2_with fail
  obtain ⟨hT9, hk9⟩ := set5 w1 w.heap.size 31 (.string ⟨#[]⟩) (.string ⟨#[]⟩) (.string ⟨#[]⟩) (.slice none 0 0) (.slice none 0 0) TB.out rfl
  exact tree_end3 rfl rfl hT9 ⟨rfl, B0.out.trans (hk9.below B0.out.size (fun k hk e => by omega))⟩
set_option maxHeartbeats 12800000 in
theorem tree49_yes (hv : Inv s) (hf : Fit s) (hs : s.top ≤ 1000000) (r : Nat → Nat) (hr : ∀ i, (s.nd i).par ≠ 0 → r i < r (s.nd i).par) (n : Nat) : ∀ (ro : Ros) (w : World) (i : Nat) (t : Tr), Dom mR ro w D s → r i < n → i ≠ 0 → i ≤ s.top → s.lives i = true → Trs s.nd [i] [t] →
    Calls Try.prog 49 #[.pointer (some ⟨D, 0, none⟩), .int .i64 i] w (YesT ro t w) := by
  induction n with
  | zero => intro _ _ _ _ _ h; omega
  | succ n ih =>
    intro ro w i t h hn hi0 hi hl ht
    obtain ⟨ts, rfl, htr⟩ : ∃ ts, t = .mk (s.nd i).tag (s.nd i).key (s.nd i).text (s.nd i).attrs ts ∧ Trs s.nd (s.nd i).kids ts := by
      cases ht with
      | cons a b => exact ⟨_, rfl, a⟩
    have TT := Lib.hid (trs_one htr)
    have IH := Lib.hid ih
    have HN := Lib.hid hn
    have RK : Hid (∀ j, j < (s.nd i).kids.length → r ((s.nd i).kids.getD j 0) < n ∧ (s.nd i).kids.getD j 0 ≠ 0 ∧ (s.nd i).kids.getD j 0 ≤ s.top ∧ s.lives (((s.nd i).kids.getD j 0 : Nat) : Int) = true) := by
      intro j hj
      have hm : (s.nd i).kids.getD j 0 ∈ (s.nd i).kids := by simp [List.getD, hj]
      have hd := hv.down i _ hm
      have hp := hv.live_pos hd.2
      have := hr ((s.nd i).kids.getD j 0) (by rw [hd.1]; exact hi0)
      rw [hd.1] at this
      refine ⟨by omega, by omega, hp.2, ?_⟩
      unfold St.lives
      rw [Int.toNat_natCast, hd.2, decide_eq_true (by omega)]
      rfl
    have hkl := kids_len hv i
    have hal := hf i
    have B0 := Lib.hid ((Below.refl _ w).alloc (Nat.le_refl _) (.cells #[.string ⟨#[]⟩, .string ⟨#[]⟩, .string ⟨#[]⟩, .slice none 0 0, .slice none 0 0] 31 (0, 0)))
    have G := Lib.hid (lives43 (i : Int) _ (h.call B0.out) hv)
    have hroD := Lib.hid h.lt
    obtain ⟨N, c, fv, av, kv, h⟩ := h
    have R0 := Lib.hid h
    obtain ⟨A, a, e1, _, _⟩ := (h.ats i hi).shape
    obtain ⟨K, k, e2, _, _⟩ := (h.ki i hi).shape
    have KC := Lib.hid ((h.ki i hi).kids e2)
    have PA := Lib.hid (owns_ps (h.ats i hi).1)
    have PR := Lib.hid (h.ats i hi).2
    rw [e1] at PA PR
    have R1 := h.alloc (.cells #[.string ⟨#[]⟩, .string ⟨#[]⟩, .string ⟨#[]⟩, .slice none 0 0, .slice none 0 0] 31 (0, 0))
    have c0 := R1.c0
    obtain ⟨n0, n1, n2, n3, n4, n5, n6⟩ := R1.nc hi
    rw [e1] at n4
    rw [e2] at n6
    replace n0 : _ = some (Value.bool (s.nd i).live) := n0
    have hi2 : (i : Int) < (s.top : Int) + 1 := by omega
    have hz1 : (w.alloc (.cells #[.string ⟨#[]⟩, .string ⟨#[]⟩, .string ⟨#[]⟩, .slice none 0 0, .slice none 0 0] 31 (0, 0))).heap.size = w.heap.size + 1 := by simp
    have BA := Lib.hid ((B0.out.alloc (by simp) (.cells #[.bool (s.nd i).live, .string (s.nd i).tag, .string (s.nd i).key, .string (s.nd i).text, .slice A (s.nd i).attrs.length a, .int .i64 (s.nd i).par, .slice K (s.nd i).kids.length k] 74 (0, 0))).alloc (by simp; omega) (.cells #[.string (s.nd i).tag, .string (s.nd i).key, .string (s.nd i).text, .slice A (s.nd i).attrs.length a, .slice none 0 0] 31 (0, 0)))
    have TB := Lib.hid (blk_alloc (blk_alloc (blk_new w (.cells #[.string ⟨#[]⟩, .string ⟨#[]⟩, .string ⟨#[]⟩, .slice none 0 0, .slice none 0 0] 31 (0, 0))) (.cells #[.bool (s.nd i).live, .string (s.nd i).tag, .string (s.nd i).key, .string (s.nd i).text, .slice A (s.nd i).attrs.length a, .int .i64 (s.nd i).par, .slice K (s.nd i).kids.length k] 74 (0, 0))) (.cells #[.string (s.nd i).tag, .string (s.nd i).key, .string (s.nd i).text, .slice A (s.nd i).attrs.length a, .slice none 0 0] 31 (0, 0)))
    have NB1 := blk_alloc (blk_new (w.alloc (.cells #[.string ⟨#[]⟩, .string ⟨#[]⟩, .string ⟨#[]⟩, .slice none 0 0, .slice none 0 0] 31 (0, 0))) (.cells #[.bool (s.nd i).live, .string (s.nd i).tag, .string (s.nd i).key, .string (s.nd i).text, .slice A (s.nd i).attrs.length a, .int .i64 (s.nd i).par, .slice K (s.nd i).kids.length k] 74 (0, 0))) (.cells #[.string (s.nd i).tag, .string (s.nd i).key, .string (s.nd i).text, .slice A (s.nd i).attrs.length a, .slice none 0 0] 31 (0, 0))
    have TB1 := blk_new ((w.alloc (.cells #[.string ⟨#[]⟩, .string ⟨#[]⟩, .string ⟨#[]⟩, .slice none 0 0, .slice none 0 0] 31 (0, 0))).alloc (.cells #[.bool (s.nd i).live, .string (s.nd i).tag, .string (s.nd i).key, .string (s.nd i).text, .slice A (s.nd i).attrs.length a, .int .i64 (s.nd i).par, .slice K (s.nd i).kids.length k] 74 (0, 0))) (.cells #[.string (s.nd i).tag, .string (s.nd i).key, .string (s.nd i).text, .slice A (s.nd i).attrs.length a, .slice none 0 0] 31 (0, 0))
    have hz2 : ((w.alloc (.cells #[.string ⟨#[]⟩, .string ⟨#[]⟩, .string ⟨#[]⟩, .slice none 0 0, .slice none 0 0] 31 (0, 0))).alloc (.cells #[.bool (s.nd i).live, .string (s.nd i).tag, .string (s.nd i).key, .string (s.nd i).text, .slice A (s.nd i).attrs.length a, .int .i64 (s.nd i).par, .slice K (s.nd i).kids.length k] 74 (0, 0))).heap.size = w.heap.size + 2 := by simp
    have hz3 : (((w.alloc (.cells #[.string ⟨#[]⟩, .string ⟨#[]⟩, .string ⟨#[]⟩, .slice none 0 0, .slice none 0 0] 31 (0, 0))).alloc (.cells #[.bool (s.nd i).live, .string (s.nd i).tag, .string (s.nd i).key, .string (s.nd i).text, .slice A (s.nd i).attrs.length a, .int .i64 (s.nd i).par, .slice K (s.nd i).kids.length k] 74 (0, 0))).alloc (.cells #[.string (s.nd i).tag, .string (s.nd i).key, .string (s.nd i).text, .slice A (s.nd i).attrs.length a, .slice none 0 0] 31 (0, 0))).heap.size = w.heap.size + 3 := by simp
    rw [hz1] at NB1
    rw [hz2] at TB1
    replace NB1 := Lib.hid NB1
    replace TB1 := Lib.hid TB1
    replace hz3 := Lib.hid hz3
    clear h R1 ih htr hn ht e1 e2 B0 hz1 hz2
    go_enter Try.func49, Try.ntmps49
    go_wp2_with fail
    refine G.out.mono ?_
    rintro e w2 ⟨rfl, rfl⟩
    rw [hl]
    go_upto_region 5 with fail
    clear c0 n0 n1 n2 n3 n4 n5 n6 G hl
    generalize ((w.alloc _).alloc _).alloc _ = w3 at *
    have L0 : LpT ro w w.heap.size (w.heap.size + 2) (s.nd i).tag (s.nd i).key (s.nd i).text (s.nd i).attrs A a (w.heap.size + 3) w3 (.slice none 0 0) [] (ts.take 0) := by
      have hz : ∀ k, w.heap.size ≤ k → ro k = 0 := fun k hk => by
        by_cases e : ro k = 0
        · exact e
        · have := hroD.out k e
          omega
      refine ⟨TB1.out, TB.out, PA.out.call BA.out, fun ad n c e => ?_, by rw [List.take_zero]; exact trR_nil _ _ _, ⟨by omega, by rw [hz3.out]; exact Nat.le_refl _, by omega, by omega, by omega⟩, hroD.out, ⟨hz _ (by omega), hz _ (Nat.le_refl _)⟩⟩
      have h4 := PR.out ad.block (by rw [e]; rfl)
      have hlt := hroD.out ad.block (by rw [h4]; decide)
      exact ⟨Or.inl (by rw [h4]; decide), by omega, by omega, by omega⟩
    have L1 := Lib.hid L0
    have n6 : w3.cell? ⟨w.heap.size + 1, 6, none⟩ = some (.slice K (s.nd i).kids.length k) := by
      rw [blk_cell NB1.out]
      rfl
    clear L0
    generalize hT : w.heap.size + 2 = Tb at *
    generalize hB : w.heap.size + 3 = B at *
    go_wp2_with fail
    clear n6
    go_loopw [36] (fun p36 wr => ∃ (j : Nat) (v : Value) (vs : List (List Value)), j ≤ (s.nd i).kids.length ∧ p36 = .int .i64 j ∧ vs.length = j ∧ Hid (LpT ro w w.heap.size Tb (s.nd i).tag (s.nd i).key (s.nd i).text (s.nd i).attrs A a B wr v vs (ts.take j)) ∧ Hid (Below w.heap.size w wr)) (fun p _ => (s.nd i).kids.length - (intOf p).toNat)
    case atStart => exact ⟨0, _, [], Nat.zero_le _, rfl, rfl, L1.out, BA.out⟩
    case round =>
      obtain ⟨j, v, vs, hj, rfl, hvs, LP, BW⟩ := hrel
      clear L1
      subst hvs
      by_cases hlt : vs.length < (s.nd i).kids.length
      · have d0 : (vs.length : Int) < ((s.nd i).kids.length : Int) := by omega
        have d1 : (vs.length : Int) < 1000000 := by omega
        obtain ⟨g, rfl, hg, hcg⟩ := KC.out vs.length hlt
        have hcw : wr.cell? ⟨g, vs.length, none⟩ = some (.int .i64 ((s.nd i).kids.getD vs.length 0 : Nat)) := by
          rw [BW.out.cell (World.block_lt_of_cell? w _ hcg)]
          exact hcg
        have RKJ := Lib.hid (RK.out vs.length hlt)
        have TJ := Lib.hid (TT.out.2 vs.length hlt)
        have TK : Hid (ts.take (vs.length + 1) = ts.take vs.length ++ [ts.getD vs.length tr0]) := by
          have hl : vs.length < ts.length := by rw [TT.out.1]; exact hlt
          show ts.take (vs.length + 1) = _
          rw [List.take_add_one]
          simp [List.getD, hl]
        have DM : Hid (Dom mR ro wr D s) := ⟨N, c, fv, av, kv, R0.out.call BW.out⟩
        obtain ⟨VA, vc, rfl⟩ := owns_shape LP.out.row.own
        have HLB : Hid (B ≤ wr.heap.size) := LP.out.lo.2.1
        have HLV : Hid (∀ g, (Value.slice VA vs.length vc).ownBlock = some g → g < wr.heap.size) := fun g hg => (LP.out.row.own.lt g hg).2
        generalize (s.nd i).kids.getD vs.length 0 = kid at *
        generalize ts.getD vs.length tr0 = tj at *
        have hvl : vs.length ≤ 1000000 := by omega
        clear hcg
        go_wp2_with fail
        refine (IH.out ro wr kid tj DM.out RKJ.out.1 RKJ.out.2.1 RKJ.out.2.2.1 RKJ.out.2.2.2 TJ.out).mono ?_
        rintro e w5 ⟨v5, rfl, TW, hb5⟩
        obtain ⟨g5, k5, x5, at5, kd5, A5, n5, a5, K5, c5, et, rfl⟩ := TW.parts
        have hz5 : (w5.alloc (.cells #[.string g5, .string k5, .string x5, .slice A5 n5 a5, .slice K5 kd5.length c5] 31 (0, 0))).heap.size = w5.heap.size + 1 := by simp
        have BX := Lib.hid (((Below.refl _ w5).alloc (Nat.le_refl _) (.cells #[.string g5, .string k5, .string x5, .slice A5 n5 a5, .slice K5 kd5.length c5] 31 (0, 0))))
        have BY := Lib.hid (BX.out.alloc (by simp) (.cells #[.string g5, .string k5, .string x5, .slice A5 n5 a5, .slice K5 kd5.length c5] 31 (0, 0)))
        have LP6 := Lib.hid ((LP.out.call hb5).call BX.out)
        have LP7 := Lib.hid ((LP.out.call hb5).call BY.out)
        have TW7 := Lib.hid (TW.call BY.out)
        have BW7 := Lib.hid (BW.out.trans ((hb5.trans (BY.out.mono hb5.size)).mono BW.out.size))
        have NB7 := blk_new (w5.alloc (.cells #[.string g5, .string k5, .string x5, .slice A5 n5 a5, .slice K5 kd5.length c5] 31 (0, 0))) (.cells #[.string g5, .string k5, .string x5, .slice A5 n5 a5, .slice K5 kd5.length c5] 31 (0, 0))
        rw [hz5] at NB7
        replace NB7 := Lib.hid NB7
        have x4 := blk_cell LP6.out.tb 4
        replace x4 : (w5.alloc (.cells #[.string g5, .string k5, .string x5, .slice A5 n5 a5, .slice K5 kd5.length c5] 31 (0, 0))).cell? ⟨Tb, 4, none⟩ = some (.slice VA vs.length vc) := x4
        clear TW hb5 et hz5 BX BY LP
        go_wp2_with (at_builtin; go_loud (refine wpList_app elT _ rfl _ _ rfl B (.slice VA vs.length vc) vs.length vs.flatten rfl LP7.out.row.own LP7.out.lo.2.1 ⟨w5.heap.size + 1, 0, none⟩ 1 1 [.string g5, .string k5, .string x5, .slice A5 n5 a5, .slice K5 kd5.length c5] rfl rfl (World.news_of_block NB7.out) (by intro u hu; simp at hu; rcases hu with rfl | rfl | rfl | rfl | rfl <;> rfl) (by omega) (by omega) ?_); intro v8 w8 h8 hg8 hv8; have LP8 := Lib.hid (LP7.out.push (x := [.string g5, .string k5, .string x5, .slice A5 n5 a5, .slice K5 kd5.length c5]) ⟨rfl, by intro u hu; simp at hu; rcases hu with rfl | rfl | rfl | rfl | rfl <;> rfl⟩ wr.heap.size HLB.out HLV.out TW7.out h8 hg8 hv8); have BW8 := Lib.hid (BW7.out.grown hg8 BW7.out.size (fun k hk => by have h9 := (LP7.out.row.own.lt k hk).1; omega)); have k3 := hg8.block Tb (blk_lt LP7.out.tb) (fun e => by have h9 := (LP7.out.row.own.lt Tb e.symm).1; omega); have T8 := k3.trans LP7.out.tb; have x8 := blk_cell T8 4; have f8 := blk_frozen T8 4; simp at x8; obtain ⟨A8, c8, rfl⟩ := owns_shape h8; clear h8 hg8 hv8 k3 T8 x4)
        have BW9 := Lib.hid (show Below w.heap.size w (w8.setCell ⟨Tb, 4, none⟩ (.slice A8 (vs.length + 1) c8)) from BW8.out.trans (((Kp.refl (fun k => k = Tb) w8).setCell (p := ⟨Tb, 4, none⟩) (fun _ => rfl) _).below BW8.out.size (fun k hk e => by omega)))
        clear BW8 x8 f8
        generalize w8.setCell _ _ = w9 at *
        go_roundw
        case rel =>
          refine ⟨vs.length + 1, _, _, by omega, by go_num, ?_, by rw [TK.out]; exact LP8.out, BW9.out⟩
          simp
        case measure => simp [intOf]; omega
      · have hje : vs.length = (s.nd i).kids.length := by omega
        have TE : Hid (ts.take vs.length = ts ∧ ts.length ≤ 1000000) := by
          have := TT.out.1
          exact ⟨List.take_of_length_le (by omega), by omega⟩
        have d0 : ¬ (vs.length : Int) < ((s.nd i).kids.length : Int) := by omega
        obtain ⟨VA, vc, rfl⟩ := owns_shape LP.out.row.own
        have x0 := blk_cell LP.out.tb 0
        have x1 := blk_cell LP.out.tb 1
        have x2 := blk_cell LP.out.tb 2
        have x3 := blk_cell LP.out.tb 3
        have x4 := blk_cell LP.out.tb 4
        have y0 := blk_cell LP.out.rb 0
        have y1 := blk_cell LP.out.rb 1
        have y2 := blk_cell LP.out.rb 2
        have y3 := blk_cell LP.out.rb 3
        have y4 := blk_cell LP.out.rb 4
        have f0 := blk_frozen LP.out.rb 0
        have f1 := blk_frozen LP.out.rb 1
        have f2 := blk_frozen LP.out.rb 2
        have f3 := blk_frozen LP.out.rb 3
        have f4 := blk_frozen LP.out.rb 4
        simp at x0 x1 x2 x3 x4 y0 y1 y2 y3 y4
        have hje2 := Lib.hid hje
        clear hje
        go_wp2_with fail
        obtain ⟨hT9, hk9⟩ := set5 wr w.heap.size 31 (.string (s.nd i).tag) (.string (s.nd i).key) (.string (s.nd i).text) (.slice A (s.nd i).attrs.length a) (.slice VA vs.length vc) LP.out.rb rfl
        have hap := LP.out.ap
        have hlo := LP.out.lo
        have htr := LP.out.row.tree (p := fun k => (ro k ≠ 0 ∨ w.heap.size ≤ k) ∧ k ≠ Tb ∧ k ≠ w.heap.size) (fun k hk => ⟨Or.inr (by omega), by omega, by omega⟩) (tag := (s.nd i).tag) (key := (s.nd i).key) (text := (s.nd i).text) ⟨hal, by rw [TE.out.1]; exact TE.out.2⟩ LP.out.at_ (fun a n c e _ => ⟨(hap a n c e).1, (hap a n c e).2.2⟩)
        rw [TE.out.1] at htr
        have htr2 := (htr.frame (fun k hp hl => hk9.block k hl hp.2.2)).mono (q := fun k => ro k ≠ 0 ∨ w.heap.size ≤ k) (fun k hp _ => hp.1)
        exact tree_end3 rfl rfl hT9 ⟨_, rfl, htr2, BW.out.trans (hk9.below BW.out.size (fun k hk e => by omega))⟩
/-- any rank does -/
theorem tree49 {ro : Ros} (i : Nat) (t : Tr) (w : World) (h : Dom mR ro w D s) (hv : Inv s) (hf : Fit s) (hs : s.top ≤ 1000000) (hl : s.lives i = true) (ht : Trs s.nd [i] [t]) :
    Calls Try.prog 49 #[.pointer (some ⟨D, 0, none⟩), .int .i64 i] w (YesT ro t w) := by
  obtain ⟨r, R, hR, hr⟩ := hv.rank
  obtain ⟨k0, e0, hi, _, hi0⟩ := lives_nat hv hl
  obtain rfl : i = k0 := by omega
  exact tree49_yes hv hf hs r hr (r i + 1) ro w i t h (by omega) hi0 hi hl ht
end
end Go.Proofs.Ytdbnhpghemlkbaa
