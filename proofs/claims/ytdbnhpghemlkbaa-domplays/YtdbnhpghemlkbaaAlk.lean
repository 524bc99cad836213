/-
  alike: the program's dom and the reference's, both in one state.
-/
import Derived.Test.YtdbnhpghemlkbaaRtr
import Derived.Test.YtdbnhpghemlkbaaGsm
import Derived.Test.YtdbnhpghemlkbaaRou
import Derived.Test.YtdbnhpghemlkbaaCat
import Derived.Deep.CutBlock
import Derived.Deep.DeepCutAuto
namespace Go.Proofs.Ytdbnhpghemlkbaa
open Go.RowKit Go.PlainAid Dm
set_option maxRecDepth 100000

def TreeI (s : St) (i : Int) (t : Tr) : Prop := (s.lives i = false ∧ t = tr0) ∨ (s.lives i = true ∧ Trs s.nd [i.toNat] [t])
def TreeQ (ro : Ros) (b : Bool) (t : Tr) (w : World) (e : Ending) (w' : World) : Prop := ∃ v, e = .returned (.tuple #[v, .bool b]) ∧ TrW (fun k => ro k ≠ 0 ∨ w.heap.size ≤ k) w' v t ∧ Below w.heap.size w w'
theorem treeI_ex {s : St} (hv : Inv s) (i : Int) : ∃ t, TreeI s i t := by
  cases hl : s.lives i with
  | false => exact ⟨tr0, Or.inl ⟨hl, rfl⟩⟩
  | true =>
    obtain ⟨ts, hts⟩ := trs_ex hv [i.toNat]
    obtain ⟨t, rfl⟩ : ∃ t, ts = [t] := List.length_eq_one_iff.1 (trs_one hts).1
    exact ⟨t, Or.inr ⟨hl, hts⟩⟩
theorem trW_zero (p : Nat → Prop) (w : World) : TrW p w (.agg #[.string ⟨#[]⟩, .string ⟨#[]⟩, .string ⟨#[]⟩, .slice none 0 0, .slice none 0 0]) tr0 :=
  .mk (attrs := []) (kids := []) (fun _ => .bool false) ⟨Nat.zero_le _, Nat.zero_le _⟩ ⟨none, 0, rfl, Nat.le_refl _, fun _ => rfl, fun i hi => absurd hi (Nat.not_lt_zero i)⟩ (fun a n c e _ => by cases e) (Nat.le_refl _) (fun i hi => absurd hi (Nat.not_lt_zero i)) (fun i hi => absurd hi (Nat.not_lt_zero i))
section
variable {ro : Ros} {D : Nat} {s : St}
theorem tree12_any (i : Int) (t : Tr) (w : World) (h : Dom mP ro w D s) (hv : Inv s) (hf : Fit s) (hs : s.top ≤ 1000000) (ht : TreeI s i t) :
    Calls Try.prog 12 #[.pointer (some ⟨D, 0, none⟩), .int .i64 i] w (TreeQ noRo (s.lives i) t w) := by
  rcases ht with ⟨hl, rfl⟩ | ⟨hl, ht⟩
  · refine (tree12_no i w h hv hl).mono ?_
    rintro e w' ⟨rfl, hb⟩
    exact ⟨_, by rw [hl], trW_zero _ _, hb⟩
  · obtain ⟨k, rfl, _, _, _⟩ := lives_nat hv hl
    rw [Int.toNat_natCast] at ht
    refine (tree12_yes k t w h hv hf hs hl ht).mono ?_
    rintro e w' ⟨v, rfl, h1, h2⟩
    exact ⟨v, by rw [hl], h1, h2⟩
theorem tree49_any (i : Int) (t : Tr) (w : World) (h : Dom mR ro w D s) (hv : Inv s) (hf : Fit s) (hs : s.top ≤ 1000000) (ht : TreeI s i t) :
    Calls Try.prog 49 #[.pointer (some ⟨D, 0, none⟩), .int .i64 i] w (TreeQ ro (s.lives i) t w) := by
  rcases ht with ⟨hl, rfl⟩ | ⟨hl, ht⟩
  · refine (tree49_no i w h hv hl).mono ?_
    rintro e w' ⟨rfl, hb⟩
    exact ⟨_, by rw [hl], trW_zero _ _, hb⟩
  · obtain ⟨k, rfl, _, _, _⟩ := lives_nat hv hl
    rw [Int.toNat_natCast] at ht
    refine (tree49 k t w h hv hf hs hl ht).mono ?_
    rintro e w' ⟨v, rfl, h1, h2⟩
    exact ⟨v, by rw [hl], h1, h2⟩
end
/-- how many live below a number -/
def cntB (s : St) (j : Nat) : Nat := ((List.range j).filter (fun k => (s.nd k).live)).length
theorem cnt_next (s : St) (k : Nat) : cntB s (k + 1) = cntB s k + (if (s.nd k).live then 1 else 0) := by
  unfold cntB
  rw [List.range_succ, List.filter_append, List.length_append]
  congr 1
  cases h : (s.nd k).live <;> simp [h]
theorem cnt_le (s : St) (j : Nat) : cntB s j ≤ j := by
  have := List.length_filter_le (fun k => (s.nd k).live) (List.range j)
  rw [List.length_range] at this
  exact this
theorem high_dead {s : St} (hv : Inv s) {k : Nat} (h : s.top < k) : (s.nd k).live = false := by rw [hv.high k h]; rfl
theorem lv_false {s : St} (hv : Inv s) {k : Nat} (h : s.lives (k : Int) = false) : (s.nd k).live = false := by
  unfold St.lives at h
  rw [Int.toNat_natCast] at h
  by_cases e : k = 0
  · subst e
    rw [hv.zero]
    rfl
  · rw [decide_eq_true (by omega)] at h
    simpa using h
theorem cnt_all {s : St} (hv : Inv s) : cntB s (s.top + 1) = s.count := by
  unfold cntB St.count St.ids
  rw [List.range_succ_eq_map, List.filter_cons_of_neg (by rw [hv.zero]; decide)]
  try rfl
theorem cnt_more {s : St} (hv : Inv s) (m : Nat) : cntB s (s.top + 1 + m) = s.count := by
  induction m with
  | zero => exact cnt_all hv
  | succ m ih =>
    rw [← Nat.add_assoc, cnt_next, ih, high_dead hv (by omega)]
    try simp
theorem ls_more {s : St} (hv : Inv s) (m : Nat) : (List.range (s.top + 1 + m)).filter (lsB s) = s.loose := by
  induction m with
  | zero => exact loose_eq hv
  | succ m ih =>
    rw [← Nat.add_assoc, ls_next, ih]
    have : lsB s (s.top + 1 + m) = false := by unfold lsB; rw [high_dead hv (by omega)]; rfl
    rw [this]
    simp
section
variable {ro rr : Ros} {D E : Nat} {s : St}
set_option maxHeartbeats 12800000 in
theorem alike27 (w : World) (h1 : Dom mP ro w D s) (h2 : Dom mR rr w E s) (hv : Inv s) (hf : Fit s) (hs : s.top ≤ 1000) :
    Calls Try.prog 27 #[.pointer (some ⟨D, 0, none⟩), .pointer (some ⟨E, 0, none⟩)] w fun e w' => e = .returned (.bool true) ∧ Below w.heap.size w w' := by
  have H1 := Lib.hid h1
  have H2 := Lib.hid h2
  have HV := Lib.hid hv
  have HF := Lib.hid hf
  clear h1 h2 hv hf
  go_enter Try.func27, Try.ntmps27
  go_wp2_with fail
  go_loopw [7, 5, 6] (fun p7 p5 p6 wr => ∃ (j : Nat) (A : Option Addr) (m c : Nat), j ≤ s.top + 5 ∧ p7 = .int .i64 ((j : Int) - 1) ∧ p5 = .slice A m c ∧ p6 = .int .i64 (cntB s (j - 1) : Nat) ∧ Hid (((List.range (j - 1)).filter (lsB s)).length = m) ∧ Hid (wr.ownsRow w.heap.size 3 1 (.slice A m c) ((List.range (j - 1)).filter (lsB s)).length (niC ((List.range (j - 1)).filter (lsB s)))) ∧ Hid (Below w.heap.size w wr)) (fun p _ _ _ => s.top + 6 - (intOf p + 1).toNat)
  case atStart => exact ⟨0, none, 0, 0, Nat.zero_le _, rfl, rfl, rfl, rfl, World.ownsRow_nil _ _ _ _, Below.refl _ w⟩
  case round =>
    obtain ⟨j, A, m, c, hj, rfl, rfl, rfl, HM, HO, HB⟩ := hrel
    have D1 := Lib.hid (H1.out.call HB.out)
    have D2 := Lib.hid (H2.out.call HB.out)
    obtain ⟨N, cN, fv, av, kv, hR⟩ := D2.out
    have c0 := hR.c0
    clear hR
    by_cases hlt : j < s.top + 5
    · have d0 : (j : Int) - 1 < (s.top : Int) + 1 + 3 := by omega
      obtain ⟨t, ht⟩ := treeI_ex HV.out ((j : Int) - 1)
      have HT := Lib.hid ht
      clear ht
      go_wp2_with fail
      have did : -1 ≤ (j : Int) - 1 := by omega
      generalize hid : (j : Int) - 1 = id at *
      replace hid := Lib.hid hid
      refine (tree49_any id t wr D2.out HV.out HF.out (by omega) HT.out).mono ?_
      rintro e w5 ⟨v5, rfl, TW1, hb5⟩
      obtain ⟨g5, k5, x5, at5, kd5, A5, n5, a5, K5, c5, et, rfl⟩ := TW1.parts
      have BX := ((Below.refl _ w5).alloc (Nat.le_refl _) (.cells #[.string g5, .string k5, .string x5, .slice A5 n5 a5, .slice K5 kd5.length c5] 31 (0, 0)))
      have E1 := Lib.hid ((D1.out.call hb5).call BX)
      have E2 := Lib.hid ((D2.out.call hb5).call BX)
      have T1 := Lib.hid (TW1.call BX)
      have X1 := Lib.hid (blk_new w5 (.cells #[.string g5, .string k5, .string x5, .slice A5 n5 a5, .slice K5 kd5.length c5] 31 (0, 0)))
      have B6 := Lib.hid (HB.out.trans ((hb5.trans (BX.mono hb5.size)).mono HB.out.size))
      have O6 := Lib.hid (owns_sameB (owns_sameB HO.out (fun g hg => hb5.block g (HO.out.lt g hg).2)) (fun g hg => BX.block g (by have := (HO.out.lt g hg).2; have := hb5.size; omega)))
      clear TW1 hb5 et BX c0 D1 D2 HO HB
      go_wp2_with fail
      generalize w5.alloc _ = w6 at *
      generalize w5.heap.size = b8 at *
      refine (tree12_any id t w6 E1.out HV.out HF.out (by omega) HT.out).mono ?_
      rintro e w7 ⟨v7, rfl, TW2, hb7⟩
      obtain ⟨g7, k7, x7, at7, kd7, A7, n7, a7, K7, c7, et, rfl⟩ := TW2.parts
      have BX := ((Below.refl _ w7).alloc (Nat.le_refl _) (.cells #[.string g7, .string k7, .string x7, .slice A7 n7 a7, .slice K7 kd7.length c7] 31 (0, 0)))
      have BZ := hb7.trans (BX.mono hb7.size)
      have F1 := Lib.hid (E1.out.call BZ)
      have F2 := Lib.hid (E2.out.call BZ)
      have T2 := Lib.hid (TW2.call BX)
      have T3 := Lib.hid (T1.out.call BZ)
      have X2 := Lib.hid (blk_new w7 (.cells #[.string g7, .string k7, .string x7, .slice A7 n7 a7, .slice K7 kd7.length c7] 31 (0, 0)))
      have X3 := Lib.hid (blk_call X1.out BZ)
      have B8 := Lib.hid (B6.out.trans (BZ.mono B6.out.size))
      have O8 := Lib.hid (owns_sameB O6.out (fun g hg => BZ.block g (O6.out.lt g hg).2))
      clear TW2 hb7 et BX BZ E1 E2 T1 X1 B6 O6 HT
      have q0 : (s.lives id != s.lives id) = false := by simp
      have x0 := blk_cell X3.out 0
      have x1 := blk_cell X3.out 1
      have x2 := blk_cell X3.out 2
      have x3 := blk_cell X3.out 3
      have x4 := blk_cell X3.out 4
      have y0 := blk_cell X2.out 0
      have y1 := blk_cell X2.out 1
      have y2 := blk_cell X2.out 2
      have y3 := blk_cell X2.out 3
      have y4 := blk_cell X2.out 4
      simp at x0 x1 x2 x3 x4 y0 y1 y2 y3 y4
      generalize hlb : s.lives id = lb at *
      replace hlb := Lib.hid hlb
      go_wp2_with fail
      generalize w7.alloc _ = w8 at *
      clear x0 x1 x2 x3 x4 y0 y1 y2 y3 y4 X2 X3
      refine (trees15 (tsz t) _ _ t t w8 (Nat.le_refl _) T3.out T2.out).mono ?_
      rintro e w9 ⟨rfl, hb9⟩
      rw [trB_true rfl]
      have G1 := Lib.hid (F1.out.call hb9)
      have G2 := Lib.hid (F2.out.call hb9)
      have B9 := Lib.hid (B8.out.trans (hb9.mono B8.out.size))
      have O9 := Lib.hid (owns_sameB O8.out (fun g hg => hb9.block g (O8.out.lt g hg).2))
      clear hb9 T2 T3 F1 F2 B8 O8
      go_wp2_with fail
      refine (parent30 id w9 G1.out HV.out).mono ?_
      rintro e w10 ⟨rfl, hb10⟩
      have I1 := Lib.hid (G1.out.call hb10)
      have I2 := Lib.hid (G2.out.call hb10)
      have B10 := Lib.hid (B9.out.trans (hb10.mono B9.out.size))
      have O10 := Lib.hid (owns_sameB O9.out (fun g hg => hb10.block g (O9.out.lt g hg).2))
      clear hb10 G1 G2 B9 O9
      go_wp2_with fail
      refine (parent50 id w10 I2.out HV.out).mono ?_
      rintro e w10 ⟨rfl, rfl⟩
      have q1 : (((ndI s id).par : Int) != ((ndI s id).par : Int)) = false := by simp
      have hkl : (ndI s id).kids.length ≤ 1000 := by
        unfold ndI
        split
        · exact Nat.zero_le _
        · exact Nat.le_trans (kids_len HV.out _) hs
      go_wp2_with fail
      refine (kids29 id w10 I1.out HV.out (by omega)).mono ?_
      rintro e w11 ⟨v11, rfl, h11, hb11⟩
      have N11 := Lib.hid (owns_ni h11)
      have J1 := Lib.hid (I1.out.call hb11)
      have J2 := Lib.hid (I2.out.call hb11)
      have B11 := Lib.hid (B10.out.trans (hb11.mono B10.out.size))
      have O11 := Lib.hid (owns_sameB O10.out (fun g hg => hb11.block g (O10.out.lt g hg).2))
      clear h11 hb11 I1 I2 B10 O10
      go_wp2_with fail
      refine (kids51 id w11 J2.out HV.out).mono ?_
      rintro e w11 ⟨⟨v12, rfl, h12⟩, rfl⟩
      go_wp2_with fail
      refine (sameI32 v11 v12 _ _ w11 N11.out h12 (by omega) (by omega)).mono ?_
      rintro e w12 ⟨rfl, q12, rfl⟩
      rw [decide_eq_true rfl]
      have hbq : Below w11.heap.size w11 (w11.drewN q12) := ⟨rfl, rfl, rfl, Nat.le_refl _, fun _ _ => rfl⟩
      have K1 := Lib.hid (J1.out.call hbq)
      have K2 := Lib.hid (J2.out.call hbq)
      have B12 := Lib.hid (B11.out.trans (hbq.mono B11.out.size))
      have O12 := Lib.hid (owns_sameB O11.out (fun g hg => hbq.block g (O11.out.lt g hg).2))
      clear hbq h12 N11 J1 J2 B11 O11 q0 q1 hkl
      generalize w11.drewN q12 = w12 at *
      cases lb with
      | false =>
        have HE : Hid ((List.range (j + 1 - 1)).filter (lsB s) = (List.range (j - 1)).filter (lsB s) ∧ cntB s (j + 1 - 1) = cntB s (j - 1)) := by
          rcases j with _ | k
          · exact ⟨rfl, rfl⟩
          · have hk : s.lives (k : Int) = false := by
              have h := hlb.out
              rw [← hid.out] at h
              rw [← h]
              congr 1
              omega
            have hd := lv_false HV.out hk
            rw [Nat.add_sub_cancel, Nat.add_sub_cancel]
            refine ⟨?_, ?_⟩
            · rw [ls_next, show lsB s k = false from by unfold lsB; rw [hd]; rfl]
              simp
            · rw [cnt_next, hd]
              simp
        go_wp2_with fail
        go_roundw
        case rel =>
          refine ⟨j + 1, A, m, c, by omega, ?_, rfl, by rw [HE.out.2], by rw [HE.out.1]; exact HM.out, by rw [HE.out.1]; exact O12.out, B12.out⟩
          have := hid.out
          congr 1
          omega
        case measure =>
          have := hid.out
          simp [intOf]
          omega
      | true =>
        obtain ⟨k, rfl, hk, _, hk0⟩ := lives_nat HV.out hlb.out
        obtain rfl : j = k + 1 := by have := hid.out; omega
        rw [Nat.add_sub_cancel] at *
        have hkl : (s.nd k).live = true := by have := (lives_spec hlb.out).2.1; rwa [Int.toNat_natCast] at this
        have HC : Hid (cntB s (k + 1 + 1 - 1) = cntB s k + 1) := by
          rw [Nat.add_sub_cancel, Hid, cnt_next, hkl]
          rfl
        have hcl := cnt_le s k
        generalize cntB s k = cn at *
        by_cases k1 : k = 1
        · subst k1
          have HE : Hid ((List.range (1 + 1 + 1 - 1)).filter (lsB s) = (List.range 1).filter (lsB s)) := by
            rw [Nat.add_sub_cancel, Hid, ls_next, ls_root]
            simp
          go_wp2_with fail
          go_roundw
          case rel => exact ⟨1 + 1 + 1, A, m, c, by omega, by go_num, rfl, by (rw [HC.out]; try go_num), by rw [HE.out]; exact HM.out, by rw [HE.out]; exact O12.out, B12.out⟩
          case measure => (try simp [intOf]); (try omega)
        · have q1 : ((k : Int) != 1) = true := bneT (by omega)
          have G := Lib.hid (parent50 (k : Int) w12 K2.out HV.out)
          have hnd : ndI s (k : Int) = s.nd k := by rw [ndI_at hlb.out, Int.toNat_natCast]
          rw [hnd] at G
          by_cases hp : (s.nd k).par = 0
          · have HE : Hid ((List.range (k + 1 + 1 - 1)).filter (lsB s) = (List.range k).filter (lsB s) ++ [k]) := by
              rw [Nat.add_sub_cancel, Hid, ls_next, show lsB s k = true from by unfold lsB; rw [hkl, hp]; simpa using k1]
              simp
            have hm : m ≤ 2000 := by
              have h1 := List.length_filter_le (lsB s) (List.range k)
              rw [List.length_range, HM.out] at h1
              omega
            have hal : ((List.range k).filter (lsB s)).length ≤ 2000 := by rw [HM.out]; exact hm
            rw [hp] at G
            clear hp
            generalize (List.range k).filter (lsB s) = acc at *
            have O13 := Lib.hid (owns_sameB O12.out (fun g hg => ((Below.refl _ w12).alloc (Nat.le_refl _) (.cells #[.int .i64 (k : Int)] 3 (0, 0))).block g (O12.out.lt g hg).2))
            have N13 : Hid (Ni (w12.alloc (.cells #[.int .i64 (k : Int)] 3 (0, 0))) (.slice (some ⟨w12.heap.size, 0, none⟩) 1 1) [k]) := ni_one (blk_new w12 _)
            have B13 := Lib.hid (B12.out.alloc B12.out.size (.cells #[.int .i64 (k : Int)] 3 (0, 0)))
            go_wp2_with fail
            refine G.out.mono ?_
            rintro e w13 ⟨rfl, rfl⟩
            go_wp2_with (at_builtin; go_loud (refine wpList_catR _ rfl _ _ rfl w.heap.size (.slice A m c) acc rfl O13.out B13.out.size _ [k] rfl N13.out (by omega) (by simp) ?_); intro v14 w14 h14 hg14 hv14; have O14 := Lib.hid h14; have B14 := Lib.hid (B13.out.grown hg14 B13.out.size (fun k hk => (O13.out.lt k hk).1)); have hl14 : (acc ++ [k]).length = m + 1 := (by rw [List.length_append, HM.out]; rfl); obtain ⟨A14, c14, rfl⟩ := owns_shape h14; rw [hl14] at O14 ⊢; clear h14 hg14 hv14)
            go_roundw
            case rel => exact ⟨k + 1 + 1, A14, m + 1, c14, by omega, by go_num, rfl, by (rw [HC.out]; try go_num), by rw [HE.out]; exact hl14, by rw [HE.out, hl14]; exact O14.out, B14.out⟩
            case measure => simp [intOf]; omega
          · have q2 : (((s.nd k).par : Int) == 0) = false := beqF (by omega)
            have HE : Hid ((List.range (k + 1 + 1 - 1)).filter (lsB s) = (List.range k).filter (lsB s)) := by
              rw [Nat.add_sub_cancel, Hid, ls_next, ls_par hp]
              simp
            go_wp2_with fail
            refine G.out.mono ?_
            rintro e w13 ⟨rfl, rfl⟩
            go_wp2_with fail
            go_roundw
            case rel => exact ⟨k + 1 + 1, A, m, c, by omega, by go_num, rfl, by (rw [HC.out]; try go_num), by rw [HE.out]; exact HM.out, by rw [HE.out]; exact O12.out, B12.out⟩
            case measure => simp [intOf]; omega
    · obtain rfl : j = s.top + 5 := by omega
      have d0 : ¬ ((s.top + 5 : Nat) : Int) - 1 < (s.top : Int) + 1 + 3 := by omega
      have HL : Hid ((List.range (s.top + 5 - 1)).filter (lsB s) = s.loose) := ls_more HV.out 3
      have hc3 : cntB s (s.top + 5 - 1) = s.count := cnt_more HV.out 3
      have hce := count_eq HV.out
      have HCI : Hid ((s.top : Int) - s.freed.length = (s.count : Nat)) := by have : s.count + s.freed.length = s.top := hce; show _ = _; omega
      rw [hc3]
      rw [HL.out] at HM HO
      clear hc3
      have hcl : s.loose.length ≤ 1001 := by
        have h := List.length_filter_le (lsB s) (List.range (s.top + 1))
        rw [loose_eq HV.out, List.length_range] at h
        omega
      generalize s.count = cn at *
      go_wp2_with fail
      refine (count16 wr D1.out (by omega) (by omega)).mono ?_
      rintro e w5 ⟨rfl, hb5⟩
      rw [HCI.out]
      have E1 := Lib.hid (D1.out.call hb5)
      have B5 := Lib.hid (HB.out.trans (hb5.mono HB.out.size))
      have O5 := Lib.hid (owns_sameB HO.out (fun g hg => hb5.block g (HO.out.lt g hg).2))
      clear hb5 c0 D1 D2 HB HO
      go_wp2_with fail
      refine (loose28 w5 E1.out HV.out (by omega)).mono ?_
      rintro e w6 ⟨v6, rfl, h6, hb6⟩
      have N6 := Lib.hid (owns_ni h6)
      have B6 := Lib.hid (B5.out.trans (hb6.mono B5.out.size))
      have O6 := Lib.hid (owns_sameB O5.out (fun g hg => hb6.block g (O5.out.lt g hg).2))
      clear h6 hb6 E1 B5 O5
      go_wp2_with fail
      refine (sameI32 v6 _ s.loose s.loose w6 N6.out (owns_ni O6.out) (by omega) (by omega)).mono ?_
      rintro e w7 ⟨rfl, q7, rfl⟩
      rw [decide_eq_true rfl]
      have hbq : Below w6.heap.size w6 (w6.drewN q7) := ⟨rfl, rfl, rfl, Nat.le_refl _, fun _ _ => rfl⟩
      have B7 := Lib.hid (B6.out.trans (hbq.mono B6.out.size))
      clear hbq B6 O6 N6
      generalize w6.drewN q7 = w7 at *
      go_wp2_with fail
      refine (root11 _ _).mono ?_
      rintro e wq ⟨rfl, rfl⟩
      go_wp2
      go_ret
      exact ⟨rfl, B7.out⟩
end
end Go.Proofs.Ytdbnhpghemlkbaa
