/-
  Tree of any number, Loose.
-/
import Derived.Test.YtdbnhpghemlkbaaTra
namespace Go.Proofs.Ytdbnhpghemlkbaa
open Go.RowKit Go.PlainAid Dm
set_option maxRecDepth 100000

theorem tree_end2 {w3 : World} {T : Nat} {tmps : Array Value} {u0 u1 u2 u3 u4 : Value} {b : Bool} {Q : Ending → World → Prop} (ht : tmps.getD 4 undef = .pointer (some ⟨T, 0, none⟩)) (h5 : tmps.getD 5 undef = .bool b) (hT : w3.heap[T]? = some (.cells #[u0, u1, u2, u3, u4] 31 (0, 0))) (hq : Q (.returned (.tuple #[.agg #[u0, u1, u2, u3, u4], .bool b])) w3) :
    bodyPost Try.prog Try.f12 Q .ret { tmps := tmps, defers := [] } w3 := by
  have k0 := blk_cell hT 0
  have k1 := blk_cell hT 1
  have k2 := blk_cell hT 2
  have k3 := blk_cell hT 3
  have k4 := blk_cell hT 4
  simp at k0 k1 k2 k3 k4
  refine bodyPost_ret (v := .tuple #[.agg #[u0, u1, u2, u3, u4], .bool b]) ?_ rfl hq
  rw [results_cell_tmp rfl, ht, h5]
  go_simp

section
variable {ro : Ros} {D : Nat} {s : St}
/-- what Tree answers of a number that doesn't live -/
def NoT (w : World) (e : Ending) (w' : World) : Prop := e = .returned (.tuple #[.agg #[.string ⟨#[]⟩, .string ⟨#[]⟩, .string ⟨#[]⟩, .slice none 0 0, .slice none 0 0], .bool false]) ∧ Below w.heap.size w w'
def YesT (ro : Ros) (t : Tr) (w : World) (e : Ending) (w' : World) : Prop := ∃ v, e = .returned (.tuple #[v, .bool true]) ∧ TrW (fun k => ro k ≠ 0 ∨ w.heap.size ≤ k) w' v t ∧ Below w.heap.size w w'
set_option maxHeartbeats 1600000 in
theorem tree12_no (i : Int) (w : World) (h : Dom mP ro w D s) (hv : Inv s) (hl : s.lives i = false) :
    Calls Try.prog 12 #[.pointer (some ⟨D, 0, none⟩), .int .i64 i] w (NoT w) := by
  have hk : kindI (ndI s i) = 0 := by rw [kind0, ndI_live hv]; exact hl
  have B0 := Lib.hid ((Below.refl _ w).alloc (Nat.le_refl _) (.cells #[.string ⟨#[]⟩, .string ⟨#[]⟩, .string ⟨#[]⟩, .slice none 0 0, .slice none 0 0] 31 (0, 0)))
  have TB := Lib.hid (blk_new w (.cells #[.string ⟨#[]⟩, .string ⟨#[]⟩, .string ⟨#[]⟩, .slice none 0 0, .slice none 0 0] 31 (0, 0)))
  have G := Lib.hid (get34 i _ (h.call B0.out) hv)
  clear h hv hl
  go_enter Try.func12, Try.ntmps12
  go_wp2_with fail
  generalize w.alloc _ = w1 at *
  refine G.out.mono ?_
  rintro e w2 ⟨a1, k1, rfl, ha, hk1, hb⟩
  obtain ⟨A, a, rfl, _, _⟩ := ha.shape
  obtain ⟨K, k, rfl, _, _⟩ := hk1.shape
  rw [hk]
  have T2 := Lib.hid (blk_call TB.out hb)
  have B2 := Lib.hid (B0.out.trans (hb.mono B0.out.size))
  clear ha hk1 hk hb
  have y0 := blk_cell T2.out 0
  have y1 := blk_cell T2.out 1
  have y2 := blk_cell T2.out 2
  have y3 := blk_cell T2.out 3
  have y4 := blk_cell T2.out 4
  have f0 := blk_frozen T2.out 0
  have f1 := blk_frozen T2.out 1
  have f2 := blk_frozen T2.out 2
  have f3 := blk_frozen T2.out 3
  have f4 := blk_frozen T2.out 4
  simp at y0 y1 y2 y3 y4
  go_wp2_with fail
  obtain ⟨hT9, hk9⟩ := set5 w2 w.heap.size 31 (.string ⟨#[]⟩) (.string ⟨#[]⟩) (.string ⟨#[]⟩) (.slice none 0 0) (.slice none 0 0) T2.out rfl
  exact tree_end2 rfl rfl hT9 ⟨rfl, B2.out.trans (hk9.below B2.out.size (fun k hk e => by omega))⟩

set_option maxHeartbeats 1600000 in
theorem tree12_yes (i : Nat) (t : Tr) (w : World) (h : Dom mP ro w D s) (hv : Inv s) (hf : Fit s) (hs : s.top ≤ 1000000) (hl : s.lives i = true) (ht : Trs s.nd [i] [t]) :
    Calls Try.prog 12 #[.pointer (some ⟨D, 0, none⟩), .int .i64 i] w (YesT noRo t w) := by
  have hk : (kindI (ndI s (i : Int)) == 0) = false := beqF ((lives_kind hv _).1 hl)
  obtain ⟨k0, e0, hi, _, hi0⟩ := lives_nat hv hl
  obtain rfl : i = k0 := by omega
  have B0 := Lib.hid ((Below.refl _ w).alloc (Nat.le_refl _) (.cells #[.string ⟨#[]⟩, .string ⟨#[]⟩, .string ⟨#[]⟩, .slice none 0 0, .slice none 0 0] 31 (0, 0)))
  have TB := Lib.hid (blk_new w (.cells #[.string ⟨#[]⟩, .string ⟨#[]⟩, .string ⟨#[]⟩, .slice none 0 0, .slice none 0 0] 31 (0, 0)))
  have G := Lib.hid (get34 i _ (h.call B0.out) hv)
  obtain ⟨r, R, hR, hr⟩ := hv.rank
  have TT := Lib.hid (fun (w1 : World) (hb : Below w.heap.size w w1) => tree37 hv hf hs r hr (r i + 1) ro w1 i t (h.call hb) (by omega) hi0 hi ht)
  clear h hv hl e0 hR hr ht
  generalize ndI s (i : Int) = n at *
  go_enter Try.func12, Try.ntmps12
  go_wp2_with fail
  generalize w.alloc _ = w1 at *
  refine G.out.mono ?_
  rintro e w2 ⟨a1, k1, rfl, ha, hk1, hb⟩
  obtain ⟨A, a, rfl, _, _⟩ := ha.shape
  obtain ⟨K, k, rfl, _, _⟩ := hk1.shape
  have T2 := Lib.hid (blk_call TB.out hb)
  have B2 := Lib.hid (B0.out.trans (hb.mono B0.out.size))
  clear ha hk1 hb
  go_wp2_with fail
  refine (TT.out w2 B2.out).mono ?_
  rintro e w3 ⟨v, rfl, hv3, hb3⟩
  obtain ⟨g5, k5, x5, at5, kd5, A5, n5, a5, K5, c5, et, rfl⟩ := hv3.parts
  have T3 := Lib.hid (blk_call T2.out hb3)
  have B3 := Lib.hid (B2.out.trans (hb3.mono B2.out.size))
  have HV := Lib.hid hv3
  have hsz : w.heap.size < w2.heap.size := blk_lt T2.out
  clear hb3 hv3 et hk
  have y0 := blk_cell T3.out 0
  have y1 := blk_cell T3.out 1
  have y2 := blk_cell T3.out 2
  have y3 := blk_cell T3.out 3
  have y4 := blk_cell T3.out 4
  have f0 := blk_frozen T3.out 0
  have f1 := blk_frozen T3.out 1
  have f2 := blk_frozen T3.out 2
  have f3 := blk_frozen T3.out 3
  have f4 := blk_frozen T3.out 4
  simp at y0 y1 y2 y3 y4
  go_wp2_with fail
  obtain ⟨hT9, hk9⟩ := set5 w3 w.heap.size 31 (.string g5) (.string k5) (.string x5) (.slice A5 n5 a5) (.slice K5 kd5.length c5) T3.out rfl
  refine tree_end2 rfl rfl hT9 ⟨_, rfl, ?_, B3.out.trans (hk9.below B3.out.size (fun k hk e => by omega))⟩
  refine (HV.out.frame (fun k hp hl => hk9.block k hl (fun e => ?_))).mono (fun k hp _ => hp.imp id (fun e => by omega))
  subst e
  rcases hp with e | e
  · exact e rfl
  · omega

/-- is it loose -/
def lsB (s : St) (i : Nat) : Bool := (s.nd i).live && (s.nd i).par == 0 && i != 1
theorem loose_eq (hv : Inv s) : (List.range (s.top + 1)).filter (lsB s) = s.loose := by
  have h0 : lsB s 0 = false := by unfold lsB; rw [hv.zero]; rfl
  rw [List.range_succ_eq_map, List.filter_cons_of_neg (by rw [h0]; decide)]
  rfl
theorem ls_next (s : St) (k : Nat) : (List.range (k + 1)).filter (lsB s) = (List.range k).filter (lsB s) ++ (if lsB s k then [k] else []) := by
  rw [List.range_succ, List.filter_append]
  congr 1
  by_cases h : lsB s k <;> simp [h]
theorem ls_dead {k : Nat} (h : kindI (s.nd k) = 0) : lsB s k = false := by unfold lsB; rw [kind0.1 h]; rfl
theorem ls_par {k : Nat} (h : (s.nd k).par ≠ 0) : lsB s k = false := by unfold lsB; simp [h]
theorem ls_root : lsB s 1 = false := by unfold lsB; simp
theorem ls_yes {k : Nat} (h : kindI (s.nd k) ≠ 0) (h2 : (s.nd k).par = 0) (h3 : k ≠ 1) : lsB s k = true := by
  unfold lsB
  rw [Ne, kind0] at h
  simp [h, h2, h3]
set_option maxHeartbeats 3200000 in
theorem loose28 (w : World) (h : Dom mP ro w D s) (hv : Inv s) (hs : s.top ≤ 1000000) :
    Calls Try.prog 28 #[.pointer (some ⟨D, 0, none⟩)] w (NewR 3 1 s.loose.length (niC s.loose) w) := by
  obtain ⟨N, c, fv, av, kv, h⟩ := h
  have c0 := h.c0
  have R0 := Lib.hid h
  have LE := Lib.hid (loose_eq hv)
  clear h hv
  go_enter Try.func28, Try.ntmps28
  go_wp2_with fail
  go_loopw [11, 3] (fun p11 p3 wr => ∃ (k : Nat), k ≤ s.top + 1 ∧ p11 = .int .i64 k ∧ Hid (wr.ownsRow w.heap.size 3 1 p3 ((List.range k).filter (lsB s)).length (niC ((List.range k).filter (lsB s)))) ∧ Hid (Below w.heap.size w wr)) (fun p11 _ _ => s.top + 1 - (intOf p11).toNat)
  case atStart => exact ⟨0, Nat.zero_le _, rfl, World.ownsRow_nil _ _ _ _, Below.refl _ _⟩
  case round =>
    obtain ⟨k, hk, rfl, HO, BW⟩ := hrel
    by_cases hlt : k < s.top + 1
    · have d0 : (k : Int) < (s.top : Int) + 1 := by omega
      have R1 := Lib.hid (R0.out.call BW.out)
      have hks : k ≤ s.top := by omega
      obtain ⟨n0, n1, n2, n3, n4, n5, n6⟩ := R1.out.nc hks
      obtain ⟨A, a, e1, _, _⟩ := (R1.out.ats k hks).shape
      obtain ⟨K, q, e2, _, _⟩ := (R1.out.ki k hks).shape
      rw [e1] at n4
      rw [e2] at n6
      replace n0 : _ = some (Value.int .i64 (kindI (s.nd k))) := n0
      have NX := Lib.hid (ls_next s k)
      have hll : ((List.range k).filter (lsB s)).length ≤ k := by
        have := List.length_filter_le (lsB s) (List.range k)
        rwa [List.length_range] at this
      have B2 := Lib.hid (BW.out.alloc BW.out.size (.cells #[.int .i64 (kindI (s.nd k)), .string (s.nd k).tag, .string (s.nd k).key, .string (s.nd k).text, .slice A (s.nd k).attrs.length a, .int .i64 (s.nd k).par, .slice K (s.nd k).kids.length q] 60 (0, 0)))
      have HO2 := Lib.hid (HO.out.alloc (.cells #[.int .i64 (kindI (s.nd k)), .string (s.nd k).tag, .string (s.nd k).key, .string (s.nd k).text, .slice A (s.nd k).attrs.length a, .int .i64 (s.nd k).par, .slice K (s.nd k).kids.length q] 60 (0, 0)))
      clear e1 e2 hks
      by_cases t1 : kindI (s.nd k) = 0
      · have q1 : (kindI (s.nd k) != 0) = false := by rw [t1]; rfl
        have E : (List.range (k + 1)).filter (lsB s) = (List.range k).filter (lsB s) := by
          have h := NX.out
          rw [ls_dead t1] at h
          simpa using h
        replace E := Lib.hid E
        clear t1
        go_wp2_with fail
        go_roundw
        case rel => exact ⟨k + 1, by omega, by go_num, by rw [E.out]; exact HO2.out, B2.out⟩
        case measure => simp [intOf]; omega
      · have q1 := bneT t1
        by_cases t2 : (s.nd k).par = 0
        · have q2 : (((s.nd k).par : Int) == 0) = true := by rw [t2]; rfl
          by_cases t3 : k = 1
          · have q3 : ((k : Int) != 1) = false := by rw [t3]; rfl
            have E : (List.range (k + 1)).filter (lsB s) = (List.range k).filter (lsB s) := by
              have h := NX.out
              rw [show lsB s k = false from t3 ▸ ls_root] at h
              simpa using h
            replace E := Lib.hid E
            clear t1 t2 t3
            go_wp2_with fail
            go_roundw
            case rel => exact ⟨k + 1, by omega, by go_num, by rw [E.out]; exact HO2.out, B2.out⟩
            case measure => simp [intOf]; omega
          · have q3 : ((k : Int) != 1) = true := bneT (by omega)
            have E : (List.range (k + 1)).filter (lsB s) = (List.range k).filter (lsB s) ++ [k] := by
              have h := NX.out
              rw [ls_yes t1 t2 t3, if_pos rfl] at h
              exact h
            replace E := Lib.hid E
            obtain ⟨VA, vc, rfl⟩ := owns_shape HO.out
            clear t1 t2 t3
            generalize (List.range k).filter (lsB s) = acc at *
            go_upto_region 6 with fail
            generalize wr.alloc _ = w2 at *
            have hw2 := B2.out.size
            have NB := Lib.hid (blk_new w2 (.cells #[.int .i64 (k : Int)] 3 (0, 0)))
            have HO3 := Lib.hid (HO2.out.alloc (.cells #[.int .i64 (k : Int)] 3 (0, 0)))
            have B3 := Lib.hid (B2.out.alloc B2.out.size (.cells #[.int .i64 (k : Int)] 3 (0, 0)))
            go_wp2_with (refine wpList_app elI _ rfl _ _ rfl w.heap.size (.slice VA acc.length vc) acc.length (niC acc) rfl HO3.out B3.out.size ⟨w2.heap.size, 0, none⟩ 1 1 [.int .i64 (k : Int)] rfl rfl (World.news_of_block NB.out) (by intro u hu; simp at hu; subst hu; rfl) (by omega) (by omega) ?_; intro v7 w7 h7 hg7 hv7; have HO7 := Lib.hid h7; have B7 := Lib.hid (B3.out.grown hg7 B3.out.size (fun k hk => (HO3.out.lt k hk).1)); clear h7 hg7 hv7)
            go_roundw
            case rel =>
              refine ⟨k + 1, by omega, by go_num, ?_, B7.out⟩
              rw [E.out, List.length_append, niC_app]
              exact HO7.out
            case measure => simp [intOf]; omega
        · have q2 : (((s.nd k).par : Int) == 0) = false := beqF (by omega)
          have E : (List.range (k + 1)).filter (lsB s) = (List.range k).filter (lsB s) := by
            have h := NX.out
            rw [ls_par t2] at h
            simpa using h
          replace E := Lib.hid E
          clear t1 t2
          go_wp2_with fail
          go_roundw
          case rel => exact ⟨k + 1, by omega, by go_num, by rw [E.out]; exact HO2.out, B2.out⟩
          case measure => simp [intOf]; omega
    · obtain rfl : k = s.top + 1 := by omega
      have HE := HO.out
      rw [LE.out] at HE
      replace HE := Lib.hid HE
      go_wp2
      go_ret
      exact ⟨_, rfl, HE.out, BW.out⟩
end
end Go.Proofs.Ytdbnhpghemlkbaa
