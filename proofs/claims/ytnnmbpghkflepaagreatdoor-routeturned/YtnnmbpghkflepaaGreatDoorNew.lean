/-
  trie's New, walked.
-/
import Derived.Test.YtnnmbpghkflepaaGreatDoorNewA
namespace Go.Proofs.YtnnmbpghkflepaaGreatDoor
open Go.RowKit Go.PlainAid
set_option maxRecDepth 100000

/-- what New comes to: a tree of the right ones, in order -/
def NewPost (ls : List (List Sg)) (w : World) (e : Ending) (w' : World) : Prop :=
  ∃ T B w0 es nd ro c ps, e = .returned (.pointer (some ⟨T, 0, none⟩)) ∧ Tr B w0 T (idxR ls ls.length).length es nd ro c w' ∧ w0.heap.size ≤ B ∧ Below w.heap.size w w' ∧ Places (getR ls (idxR ls ls.length)) ps ∧
    es.map (fun e => (e.n, e.l)) = ps.map (fun p => ((idxR ls ls.length).getD p 0, (getR ls (idxR ls ls.length)).getD p default))
/-- where New's second loop is -/
def NewMid (R : List (List Sg)) (N ps : List Nat) (wz w5 : World) (k : Nat) (wr : World) : Prop :=
  ∃ es nd ro, Tr wz.heap.size wz wz.heap.size N.length es nd ro (k * 8) wr ∧ es.map (fun e => (e.n, e.l)) = (ps.take k).map (fun p => (N.getD p 0, R.getD p default)) ∧ es.length = k ∧
    w5.heap.size ≤ wr.heap.size ∧ ∀ g, g < w5.heap.size → g ≠ wz.heap.size → ro g = none ∧ wr.heap[g]? = w5.heap[g]?
theorem take_nat {f : Nat → Nat × List Sg} (l : List Nat) (k : Nat) (h : k < l.length) : (l.take (k + 1)).map f = (l.take k).map f ++ [f (l.getD k 0)] := by
  have e : l.take (k + 1) = l.take k ++ [l.getD k 0] := by
    rw [List.take_add_one]
    simp only [List.getD, List.getElem?_eq_getElem h, Option.toList_some, Option.getD_some]
  rw [e, List.map_append]
  rfl

theorem ni_len {w : World} {v : Value} {ps : List Nat} (h : Ni w v ps) : ∃ A c, v = .slice A ps.length c := by
  obtain ⟨A, cap, e, _⟩ := h
  exact ⟨_, _, e⟩
theorem pl_lt {ls : List (List Sg)} {ps : List Nat} (h : Places ls ps) {k : Nat} (hk : k < ps.length) : ps.getD k 0 < ls.length := by
  have hm : ps.getD k 0 ∈ ps := by simp [List.getD, hk]
  have := (h.1.mem_iff).1 hm
  simpa using this
set_option maxHeartbeats 6400000 in
theorem new6 (v : Value) (ls : List (List Sg)) (w : World) (hg : Gss w v ls) (h12 : ls.length ≤ 1000) :
    Calls Tryz.prog 30 #[v] w (NewPost ls w) := by
  obtain ⟨A, cap, rfl, _, _, hc⟩ := hg
  have HC := Lib.hid hc
  clear hc
  have E1 := Lib.hid (empL w.heap.size w w (Below.refl _ _) (Nat.le_refl _))
  have E2 := Lib.hid (empI w.heap.size w (w.alloc (.cells #[] 50 (0, 0))) ((Below.refl _ _).alloc (Nat.le_refl _) _) (by simp))
  go_enter Tryz.func30, Tryz.ntmps30
  go_wp2_with fail
  have E1' := Lib.hid (E1.out.alloc (.cells #[] 3 (0, 0)))
  have E2' : Hid (OwnI w.heap.size w (.slice (some ⟨w.heap.size + 1, 0, none⟩) 0 0) [] ((w.alloc (.cells #[] 50 (0, 0))).alloc (.cells #[] 3 (0, 0)))) := by
    have := E2.out
    simp at this
    exact this
  clear E1 E2
  generalize (w.alloc (.cells #[] 50)).alloc (.cells #[] 3) = w1 at *
  go_loopw [3, 4, 14] (fun rv nv i wr => ∃ k : Nat, k ≤ ls.length ∧ i = .int .i64 k ∧ OwnL w.heap.size w rv (getR ls (idxR ls k)) wr ∧ OwnI w.heap.size w nv (idxR ls k) wr) (fun _ _ i _ => ls.length - (intOf i).toNat)
  case atStart => exact ⟨0, Nat.zero_le _, rfl, E1'.out, E2'.out⟩
  case round =>
    obtain ⟨k, hk, rfl, hl, hi⟩ := hrel
    have HL := Lib.hid hl
    have HI := Lib.hid hi
    obtain ⟨A3, n3, c3, rfl⟩ := hl.shape
    obtain ⟨A4, n4, c4, rfl⟩ := hi.shape
    clear hl hi E1' E2'
    by_cases hlt : k < ls.length
    · have d0 : (k : Int) < (ls.length : Int) := by omega
      obtain ⟨x, o, u, rfl, hcell, hu⟩ := HC.out k hlt
      have g1 : wr.cell? ⟨x, o + k, none⟩ = some u := by rw [HL.out.below.cell (World.block_lt_of_cell? _ _ hcell)]; exact hcell
      have HU := Lib.hid (hu.call HL.out.below)
      obtain ⟨Au, nu, cu, rfl⟩ := hu.shape
      have HX := Lib.hid (idx_next ls k)
      have IL := Lib.hid (idx_len ls k)
      clear hcell hu
      generalize hlk : ls.getD k default = lk at *
      have HLK := Lib.hid hlk
      clear hlk
      by_cases hr : rgB lk = true
      · have l8 := rg_len hr
        have HR := Lib.hid hr
        have XR := Lib.hid (right16 _ lk wr HU.out)
        rw [hr] at XR
        have XC := Lib.hid (fun W hW => clone21 _ lk W (HU.out.call hW) (by omega))
        clear hr
        go_wp2_with (first
          | (go_at_call 34; refine XR.out.mono ?_; rintro e w2 ⟨rfl, hb2⟩; have B2 := Lib.hid hb2; clear hb2)
          | (go_at_call 43; refine (XC.out _ B2.out).mono ?_; rintro e w3 ⟨u3, rfl, hu3, hb3⟩; have U3 := Lib.hid hu3; have B3 := Lib.hid (B2.out.trans (hb3.mono B2.out.size)); obtain ⟨A9, n9, c9, rfl⟩ := hu3.shape; clear hu3 hb3)
          | (at_builtin; refine wpList_appL (w := w3.alloc (.cells #[.slice A9 n9 c9] 50 (0, 0))) rfl (.tmp 21) (.tmp 24) rfl rfl ((HL.out.call B3.out).alloc (.cells #[.slice A9 n9 c9] 50 (0, 0))) (by have h1 := IL.out; unfold getR; rw [List.length_map]; omega) _ 1 1 [lk] rfl rfl (by omega) (by omega) (fun e => by cases e) (one_src (blk_new w3 (.cells #[.slice A9 n9 c9] 50 (0, 0))) (U3.out.call ((Below.refl _ _).alloc (Nat.le_refl _) _))) ?_; intro v5 w5 h5 hg5; have H5 := Lib.hid h5; have I5 := Lib.hid (((HI.out.call B3.out).alloc (.cells #[.slice A9 n9 c9] 50 (0, 0))).other ((HL.out.call B3.out).alloc (.cells #[.slice A9 n9 c9] 50 (0, 0))) hg5); obtain ⟨A5, n5, c5, rfl⟩ := h5.shape; clear h5 hg5)
          | (at_builtin; refine wpList_appI (w := w5.alloc (.cells #[.int .i64 (k : Int)] 3 (0, 0))) rfl (.tmp 26) (.tmp 28) rfl rfl (I5.out.alloc (.cells #[.int .i64 (k : Int)] 3 (0, 0))) (by have h1 := IL.out; omega) w5.heap.size k rfl (blk_new w5 _) ?_; intro v6 w6 h6 hg6; have H6 := Lib.hid h6; have L6 := Lib.hid ((H5.out.alloc (.cells #[.int .i64 (k : Int)] 3 (0, 0))).other (I5.out.alloc (.cells #[.int .i64 (k : Int)] 3 (0, 0))) hg6); obtain ⟨A6, n6, c6, rfl⟩ := h6.shape; clear h6 hg6))
        go_roundw
        case rel =>
          have hx := HX.out
          rw [if_pos HR.out] at hx
          refine ⟨k + 1, by omega, by go_num, ?_, ?_⟩
          · rw [hx]
            have := L6.out
            unfold getR at this ⊢
            rw [List.map_append, List.map_cons, List.map_nil, HLK.out]
            exact this
          · rw [hx]
            exact H6.out
        case measure => simp [intOf]; omega
      · have hr' : rgB lk = false := by simpa using hr
        have HR := Lib.hid hr
        have XR := Lib.hid (right16 _ lk wr HU.out)
        rw [hr'] at XR
        clear hr hr'
        go_wp2_with (first
          | (go_at_call 34; refine XR.out.mono ?_; rintro e w2 ⟨rfl, hb2⟩; have B2 := Lib.hid hb2; clear hb2))
        go_roundw
        case rel =>
          have hx := HX.out
          rw [if_neg HR.out, List.append_nil] at hx
          refine ⟨k + 1, by omega, by go_num, ?_, ?_⟩
          · rw [hx]
            exact HL.out.call B2.out
          · rw [hx]
            exact HI.out.call B2.out
        case measure => simp [intOf]; omega
    · obtain rfl : k = ls.length := by omega
      have IL := Lib.hid (idx_len ls ls.length)
      have HRG : Hid (∀ i ∈ idxR ls ls.length, rgB (ls.getD i default) = true) := fun i hi => by
        rw [idxR, List.mem_filter] at hi
        exact hi.2
      obtain ⟨N, hN⟩ : ∃ N, N = idxR ls ls.length := ⟨_, rfl⟩
      obtain ⟨R, hR⟩ : ∃ R, R = getR ls N := ⟨_, rfl⟩
      have HNN := Lib.hid hN
      have HRR := Lib.hid hR
      have RR : Hid (∀ l ∈ R, rgB l = true) := by
        intro l hl
        rw [hR, getR, List.mem_map] at hl
        obtain ⟨i, hi, rfl⟩ := hl
        rw [hN] at hi
        exact HRG.out i hi
      have RL : Hid (R.length = N.length) := by show _ = _; rw [hR, getR, List.length_map]
      rw [← hN] at HL HI IL
      rw [← hR] at HL
      clear hN hR HRG hlt
      have nl : N.length ≤ 1000 := by have := IL.out; omega
      obtain ⟨A3', c3', hv3⟩ := box_len HL.out.gss
      simp only [Value.slice.injEq] at hv3
      obtain ⟨rfl, rfl, rfl⟩ := hv3
      rw [RL.out] at HL ⊢
      obtain ⟨wz, hwz⟩ : ∃ wz, wz = wr := ⟨_, rfl⟩
      have T4 := Lib.hid (tr_new wz N.length)
      have B4 := Lib.hid ((Below.refl wz.heap.size wz).alloc (Nat.le_refl _) (.cells #[.int .i64 N.length, .map none, .pointer none, .slice none 0 0, .slice none 0 0, .slice none 0 0] 83 (0, 0)))
      have S4 : Hid ((wz.alloc (.cells #[.int .i64 N.length, .map none, .pointer none, .slice none 0 0, .slice none 0 0, .slice none 0 0] 83 (0, 0))).heap.size = wz.heap.size + 1) := by show _ = _; simp
      rw [← hwz] at HL HI ⊢
      clear hwz
      have XS := Lib.hid (sorted11 _ R (wz.alloc (.cells #[.int .i64 N.length, .map none, .pointer none, .slice none 0 0, .slice none 0 0, .slice none 0 0] 83 (0, 0))) (HL.out.gss.call B4.out) (by rw [RL.out]; exact nl) (fun l hl => by have := rg_len (RR.out l hl); omega))
      go_wp2_with (first | (go_at_call 44; refine XS.out.mono ?_; rintro e w5 ⟨u5, ps, rfl, hn5, hp5, hb5, hf5⟩; have N5 := Lib.hid hn5; have P5 := Lib.hid hp5; have B5 := Lib.hid hb5; have F5 := Lib.hid hf5; obtain ⟨A5, c5, rfl⟩ := ni_len hn5; clear hn5 hp5 hb5 hf5))
      have PL : Hid (ps.length = N.length) := by show _ = _; rw [P5.out.len, RL.out]
      have pl12 : ps.length ≤ 1000 := by rw [PL.out]; exact nl
      clear XS
      go_loopw [38] (fun i wr => ∃ k : Nat, k ≤ ps.length ∧ i = .int .i64 k ∧ NewMid R N ps wz w5 k wr) (fun i _ => ps.length - (intOf i).toNat)
      case atStart =>
        refine ⟨0, Nat.zero_le _, rfl, [], _, _, (T4.out.call B5.out).mono (Nat.zero_le _), rfl, rfl, Nat.le_refl _, fun g hg hne => ⟨?_, rfl⟩⟩
        exact upd_other _ _ _ hne
      case round =>
        obtain ⟨k, hk, rfl, es, nd9, ro9, htr, hes, hel, hsz, hkp⟩ := hrel
        have TR := Lib.hid htr
        have HES := Lib.hid hes
        have HSZ := Lib.hid hsz
        have HKP := Lib.hid hkp
        clear htr hes hsz hkp
        by_cases hlt : k < ps.length
        · have d0 : (k : Int) < (ps.length : Int) := by omega
          have hpp := pl_lt P5.out hlt
          have TN := Lib.hid (take_nat (f := fun p => (N.getD p 0, R.getD p default)) ps k hlt)
          obtain ⟨A5', cap5', e5, _, _, hc5⟩ := N5.out
          simp only [Value.slice.injEq] at e5
          obtain ⟨rfl, -, rfl⟩ := e5
          obtain ⟨sb, so, rfl, hs5⟩ := hc5 k hlt
          have hsb : wz.heap.size < sb := by
            have h1 := F5.out sb so _ _ rfl
            have h2 := S4.out
            omega
          have y0 : wr.cell? ⟨sb, so + k, none⟩ = some (.int .i64 (ps.getD k 0 : Nat)) := by
            rw [World.cell?_of_block (w := w5) (HKP.out sb (World.block_lt_of_cell? _ _ hs5) (by omega)).2]
            exact hs5
          clear hs5 hc5
          obtain ⟨p, hp⟩ : ∃ p, p = ps.getD k 0 := ⟨_, rfl⟩
          rw [← hp] at y0 hpp TN
          clear hp
          rw [RL.out] at hpp
          have d1 : (p : Int) < (N.length : Int) := by omega
          obtain ⟨A4', cap4', e4, _, _, hc4⟩ := HI.out.ni
          simp only [Value.slice.injEq] at e4
          obtain ⟨rfl, rfl, rfl⟩ := e4
          obtain ⟨nb, no, rfl, hn4⟩ := hc4 p hpp
          obtain ⟨A6', cap6', e6, _, _, hc6⟩ := HL.out.gts
          simp only [Value.slice.injEq] at e6
          obtain ⟨rfl, -, rfl⟩ := e6
          obtain ⟨rb, ro1, up, rfl, hr6, hup⟩ := hc6 p (by rw [RL.out]; exact hpp)
          have B1 := Lib.hid (World.block_lt_of_cell? _ _ hn4)
          have B2 := Lib.hid (World.block_lt_of_cell? _ _ hr6)
          have x1 : wr.cell? ⟨nb, no + p, none⟩ = some (.int .i64 (N.getD p 0 : Nat)) := by rw [TR.out.below.cell (World.block_lt_of_cell? _ _ hn4)]; exact hn4
          have x2 : wr.cell? ⟨rb, ro1 + p, none⟩ = some up := by rw [TR.out.below.cell (World.block_lt_of_cell? _ _ hr6)]; exact hr6
          have HRP := Lib.hid (RR.out _ (getD_mem R p (by rw [RL.out]; exact hpp)))
          have HG := Lib.hid hup.1
          clear hn4 hr6 hc4 hc6 hup
          obtain ⟨lp, hlp⟩ : ∃ lp, lp = R.getD p default := ⟨_, rfl⟩
          obtain ⟨Np, hNp⟩ : ∃ Np, Np = N.getD p 0 := ⟨_, rfl⟩
          rw [← hlp] at HRP HG TN
          rw [← hNp] at x1 TN
          clear hlp hNp
          obtain ⟨Ap, cp, rfl⟩ : ∃ Ap cp, up = .slice Ap lp.length cp := by
            obtain ⟨Ap, cp, e, _⟩ := HG.out
            exact ⟨Ap, cp, e⟩
          have l8 := rg_len HRP.out
          have XA := Lib.hid (add23 (TR.out.call ((Below.refl _ _).drew)) Ap cp Np lp HG.out (tx_size HRP.out) (by omega) (by omega) (by omega) (Nat.le_refl _))
          go_wp2_with fail
          have hS0 : (fun W : World => W.cell? ⟨nb, no + p, none⟩ = some (.int .i64 (Np : Nat)) ∧ W.cell? ⟨rb, ro1 + p, none⟩ = some (.slice Ap lp.length cp)) wr.drew := ⟨x1, x2⟩
          refine wp_region_sink (S := (fun W : World => W.cell? ⟨nb, no + p, none⟩ = some (.int .i64 (Np : Nat)) ∧ W.cell? ⟨rb, ro1 + p, none⟩ = some (.slice Ap lp.length cp))) (n := 1000) (by kernel_rfl) ?_
          change wpSink _ _ _ _ _ 1000 13 _ _ _
          refine sink_take1 (i := 0) (d := some 42) (v := ?_) rfl rfl (by kernel_rfl) (by decide) (by kernel_rfl) (by kernel_rfl) (fun _ _ _ h => h) (Or.inl ⟨by rfl, ?_⟩) hS0 ?_
          rotate_left
          · intro wz hSw
            (try dsimp only at hSw)
            obtain ⟨g1, g2⟩ := hSw
            go_simp
            (try with_reducible rfl)
          try simp only [Act.put, List.setIfInBounds_toArray, List.set_cons_zero, List.set_cons_succ]
          refine sink_take1 (i := 1) (d := some 43) (v := ?_) rfl rfl (by kernel_rfl) (by decide) (by kernel_rfl) (by kernel_rfl) (fun _ _ _ h => h) (Or.inl ⟨by rfl, ?_⟩) hS0 ?_
          rotate_left
          · intro wz hSw
            (try dsimp only at hSw)
            obtain ⟨g1, g2⟩ := hSw
            go_simp
            (try with_reducible rfl)
          try simp only [Act.put, List.setIfInBounds_toArray, List.set_cons_zero, List.set_cons_succ]
          refine sink_take1 (i := 2) (d := some 44) (v := ?_) rfl rfl (by kernel_rfl) (by decide) (by kernel_rfl) (by kernel_rfl) (fun _ _ _ h => h) (Or.inl ⟨by rfl, ?_⟩) hS0 ?_
          rotate_left
          · intro wz hSw
            (try dsimp only at hSw)
            obtain ⟨g1, g2⟩ := hSw
            go_simp
            (try with_reducible rfl)
          try simp only [Act.put, List.setIfInBounds_toArray, List.set_cons_zero, List.set_cons_succ]
          refine sink_take1 (i := 3) (d := some 45) (v := ?_) rfl rfl (by kernel_rfl) (by decide) (by kernel_rfl) (by kernel_rfl) (fun _ _ _ h => h) (Or.inl ⟨by rfl, ?_⟩) hS0 ?_
          rotate_left
          · intro wz hSw
            (try dsimp only at hSw)
            obtain ⟨g1, g2⟩ := hSw
            go_simp
            (try with_reducible rfl)
          try simp only [Act.put, List.setIfInBounds_toArray, List.set_cons_zero, List.set_cons_succ]
          refine sink_take1 (i := 4) (d := some 46) (v := ?_) rfl rfl (by kernel_rfl) (by decide) (by kernel_rfl) (by kernel_rfl) (fun _ _ _ h => h) (Or.inl ⟨by rfl, ?_⟩) hS0 ?_
          rotate_left
          · intro wz hSw
            (try dsimp only at hSw)
            obtain ⟨g1, g2⟩ := hSw
            go_simp
            (try with_reducible rfl)
          try simp only [Act.put, List.setIfInBounds_toArray, List.set_cons_zero, List.set_cons_succ]
          refine sink_take1 (i := 5) (d := some 47) (v := ?_) rfl rfl (by kernel_rfl) (by decide) (by kernel_rfl) (by kernel_rfl) (fun _ _ _ h => h) (Or.inl ⟨by rfl, ?_⟩) hS0 ?_
          rotate_left
          · intro wz hSw
            (try dsimp only at hSw)
            obtain ⟨g1, g2⟩ := hSw
            go_simp
            (try with_reducible rfl)
          try simp only [Act.put, List.setIfInBounds_toArray, List.set_cons_zero, List.set_cons_succ]
          refine sink_take1 (i := 6) (d := some 48) (v := ?_) rfl rfl (by kernel_rfl) (by decide) (by kernel_rfl) (by kernel_rfl) (fun _ _ _ h => h) (Or.inl ⟨by rfl, ?_⟩) hS0 ?_
          rotate_left
          · intro wz hSw
            (try dsimp only at hSw)
            obtain ⟨g1, g2⟩ := hSw
            go_simp
            (try with_reducible rfl)
          try simp only [Act.put, List.setIfInBounds_toArray, List.set_cons_zero, List.set_cons_succ]
          refine sink_take1 (i := 7) (d := some 49) (v := ?_) rfl rfl (by kernel_rfl) (by decide) (by kernel_rfl) (by kernel_rfl) (fun _ _ _ h => h) (Or.inl ⟨by rfl, ?_⟩) hS0 ?_
          rotate_left
          · intro wz hSw
            (try dsimp only at hSw)
            obtain ⟨g1, g2⟩ := hSw
            go_simp
            (try with_reducible rfl)
          try simp only [Act.put, List.setIfInBounds_toArray, List.set_cons_zero, List.set_cons_succ]
          refine sink_take1 (i := 8) (d := some 50) (v := ?_) rfl rfl (by kernel_rfl) (by decide) (by kernel_rfl) (by kernel_rfl) (fun _ _ _ h => h) (Or.inl ⟨by rfl, ?_⟩) hS0 ?_
          rotate_left
          · intro wz hSw
            (try dsimp only at hSw)
            obtain ⟨g1, g2⟩ := hSw
            go_simp
            (try with_reducible rfl)
          try simp only [Act.put, List.setIfInBounds_toArray, List.set_cons_zero, List.set_cons_succ]
          refine sink_take1 (i := 9) (d := some 51) (v := ?_) rfl rfl (by kernel_rfl) (by decide) (by kernel_rfl) (by kernel_rfl) (fun _ _ _ h => h) (Or.inl ⟨by rfl, ?_⟩) hS0 ?_
          rotate_left
          · intro wz hSw
            (try dsimp only at hSw)
            obtain ⟨g1, g2⟩ := hSw
            go_simp
            (try with_reducible rfl)
          try simp only [Act.put, List.setIfInBounds_toArray, List.set_cons_zero, List.set_cons_succ]
          refine sink_take1 (i := 10) (d := some 52) (v := ?_) rfl rfl (by kernel_rfl) (by decide) (by kernel_rfl) (by kernel_rfl) (fun _ _ _ h => h) (Or.inl ⟨by rfl, ?_⟩) hS0 ?_
          rotate_left
          · intro wz hSw
            (try dsimp only at hSw)
            obtain ⟨g1, g2⟩ := hSw
            go_simp
            (try with_reducible rfl)
          try simp only [Act.put, List.setIfInBounds_toArray, List.set_cons_zero, List.set_cons_succ]
          refine sink_take1 (i := 11) (d := some 53) (v := ?_) rfl rfl (by kernel_rfl) (by decide) (by kernel_rfl) (by kernel_rfl) (fun _ _ _ h => h) (Or.inl ⟨by rfl, ?_⟩) hS0 ?_
          rotate_left
          · intro wz hSw
            (try dsimp only at hSw)
            obtain ⟨g1, g2⟩ := hSw
            go_simp
            (try with_reducible rfl)
          try simp only [Act.put, List.setIfInBounds_toArray, List.set_cons_zero, List.set_cons_succ]
          refine sink_one (i := 12) (by kernel_rfl) ?_
          refine wpOp_step rfl (fun K' hK => ?_)
          have HKK := Lib.hid hK
          clear hK
          rw [if_pos (by rfl)]
          go_simp
          refine XA.out.mono ?_
          rintro e w9 ⟨rfl, nd', ro', ht', hs', hk'⟩
          have T9 := Lib.hid ht'
          have S9 := Lib.hid hs'
          have K9 := Lib.hid hk'
          have hS9 : (fun W : World => W.cell? ⟨nb, no + p, none⟩ = some (.int .i64 (Np : Nat)) ∧ W.cell? ⟨rb, ro1 + p, none⟩ = some (.slice Ap lp.length cp)) w9 := ⟨by rw [T9.out.below.cell B1.out, ← TR.out.below.cell B1.out]; exact x1, by rw [T9.out.below.cell B2.out, ← TR.out.below.cell B2.out]; exact x2⟩
          clear ht' hs' hk'
          refine HKK.out _ _ ⟨Or.inr hS9, ?_⟩
          clear HKK
          try simp only [Act.put, List.setIfInBounds_toArray, List.set_cons_zero, List.set_cons_succ]
          refine sink_done (by kernel_rfl) ?_
          go_wp2_with fail
          go_roundw
          case rel =>
            refine ⟨k + 1, by omega, by go_num, es ++ [⟨Np, .slice Ap lp.length cp, lp⟩], nd', ro', T9.out.mono (by omega), ?_, by simp; omega, ?_, fun g hg hne => ?_⟩
            · rw [List.map_append, HES.out, TN.out]
              rfl
            · have h1 := S9.out
              have h2 := HSZ.out
              exact Nat.le_trans h2 h1
            · obtain ⟨r1, r2⟩ := HKP.out g hg hne
              obtain ⟨r3, r4⟩ := K9.out g (Nat.lt_of_lt_of_le hg HSZ.out) r1
              exact ⟨r3, r4.trans r2⟩
          case measure => simp [intOf]; omega
        · obtain rfl : k = ps.length := by omega
          go_wp2_with fail
          go_ret
          refine ⟨wz.heap.size, wz.heap.size, wz, es, nd9, ro9, ps.length * 8, ps, rfl, ?_, Nat.le_refl _, ?_, ?_, ?_⟩
          · rw [← HNN.out]
            exact TR.out
          · exact HL.out.below.trans (TR.out.below.mono HL.out.size)
          · rw [← HNN.out, ← HRR.out]
            exact P5.out
          · have := HES.out
            rw [List.take_length] at this
            rw [← HNN.out, ← HRR.out]
            exact this
end Go.Proofs.YtnnmbpghkflepaaGreatDoor
