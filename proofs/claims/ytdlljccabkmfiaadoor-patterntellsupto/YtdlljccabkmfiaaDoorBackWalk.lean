/-
  PatternBack, walked.
-/
import Derived.Test.YtdlljccabkmfiaaDoorKeepURL
import Derived.Test.YtdlljccabkmfiaaDoorPath
import Derived.Test.YtdlljccabkmfiaaDoorRuns
import Derived.Test.YtdlljccabkmfiaaDoorTurn
import Derived.Test.YtdlljccabkmfiaaDoorVals
namespace Go.Proofs.YtdlljccabkmfiaaDoor
open Go.RowKit Go.PlainAid

theorem pr_mem (x : List Pr) (k : Nat) (h : k < x.length) : x.getD k default ∈ x := by
  simp [List.getD, h]
theorem field43 (A1 : Option Addr) (n1 c1 : Nat) (A2 : Option Addr) (n2 c2 : Nat) (w : World) : (Instr.field 43 (.agg #[.slice A1 n1 c1, .slice A2 n2 c2]) 0).run Tryd.prog w = .ok (.slice A1 n1 c1) w := by
  kernel_rfl
theorem keep_blk {W w' : World} {row : Option Nat} {k : Nat} {o : Obj} (hg : W.grownBy w' row) (h : W.heap[k]? = some o) (hne : some k ≠ row) : w'.heap[k]? = some o := (hg.block k (blk_lt h) hne).trans h
theorem empP1 (w : World) (o : Obj) : OwnP w.heap.size w (.slice (some ⟨w.heap.size + 1, 0, none⟩) 0 0) [] ((w.alloc o).alloc (.cells #[] 32 (0, 0))) := by
  have h := empP w.heap.size w (w.alloc o) ((Below.refl _ _).alloc (Nat.le_refl _) o) (by simp)
  rw [show (w.alloc o).heap.size = w.heap.size + 1 by simp] at h
  exact h
theorem keep_right {p : List ByteArray} (h5 : p.length ≤ 5) (h : ∀ s ∈ p, s ∈ wordsL) : rightB p [] = true := by
  have hw : ∀ s ∈ wordsL, nameB s = true := by decide +kernel
  rw [rightB, Bool.and_eq_true, Bool.and_eq_true, List.all_eq_true]
  exact ⟨decide_eq_true ⟨by omega, by simp⟩, fun s hs => hw s (h s hs), rfl⟩


set_option maxHeartbeats 6400000 in
set_option maxRecDepth 100000 in
theorem back_any (A1 A2 A3 A4 A5 A6 : Option Addr) (n1 c1 n2 c2 n3 c3 n4 c4 n5 c5 n6 c6 : Nat) (la cut : Int) (drop : Bool) (f1 f2 f3 f4 f5 f6 : Nat → Int) (w : World)
    (k1 : Ia w A1 n1 f1) (k2 : Ia w A2 n2 f2) (k3 : Ia w A3 n3 f3) (k4 : Ia w A4 n4 f4) (k5 : Ia w A5 n5 f5) (k6 : Ia w A6 n6 f6) :
    Calls Tryd.prog 5 #[.agg #[.slice A1 n1 c1, .slice A2 n2 c2, .int .i64 la], .agg #[.slice A3 n3 c3, .slice A4 n4 c4, .slice A5 n5 c5], .slice A6 n6 c6, .int .i64 cut, .bool drop] w fun e w' => e = .returned (.bool true) ∧ Below w.heap.size w w' := by
  have b0 := ((Below.refl w.heap.size w).alloc (Nat.le_refl _) (.cells #[.slice A1 n1 c1, .slice A2 n2 c2, .int .i64 la] 38 (0, 0))).alloc (by simp) (.cells #[.slice A3 n3 c3, .slice A4 n4 c4, .slice A5 n5 c5] 40 (0, 0))
  have HX := Lib.hid (blk_alloc (blk_new w (.cells #[.slice A1 n1 c1, .slice A2 n2 c2, .int .i64 la] 38 (0, 0))) (.cells #[.slice A3 n3 c3, .slice A4 n4 c4, .slice A5 n5 c5] 40 (0, 0)))
  have HY := Lib.hid (blk_new1 w (.cells #[.slice A1 n1 c1, .slice A2 n2 c2, .int .i64 la] 38 (0, 0)) (.cells #[.slice A3 n3 c3, .slice A4 n4 c4, .slice A5 n5 c5] 40 (0, 0)))
  have HB := Lib.hid b0
  have K1 := Lib.hid (k1.call b0)
  have K2 := Lib.hid (k2.call b0)
  have K3 := Lib.hid (k3.call b0)
  have K4 := Lib.hid (k4.call b0)
  have K5 := Lib.hid (k5.call b0)
  have K6 := Lib.hid (k6.call b0)
  have hn6 := k6.1
  clear b0 k1 k2 k3 k4 k5 k6
  go_enter Tryd.func5, Tryd.ntmps5
  go_wp2_with fail
  generalize (w.alloc (.cells #[.slice A1 n1 c1, .slice A2 n2 c2, .int .i64 la] 38)).alloc (.cells #[.slice A3 n3 c3, .slice A4 n4 c4, .slice A5 n5 c5] 40) = w5 at *
  refine (segs12 A1 A2 n1 c1 n2 c2 la f1 f2 _ K1.out K2.out).mono ?_
  rintro e w1 ⟨va, l, rfl, hg, hk, h⟩
  have G1 := Lib.hid hg
  have Q1 := Lib.hid hk
  have M1 := Lib.hid h
  obtain ⟨Aa, ca, rfl, hca, _, hcl⟩ := hg
  have HC := Lib.hid hcl
  clear hk h hcl
  go_wp2_with fail
  refine (words18 _).mono ?_
  rintro e w2 ⟨rfl, rfl⟩
  have b2 := (Below.refl w1.heap.size w1).alloc (Nat.le_refl _) (.cells (wordsL.map Value.string).toArray 9 (0, 0))
  have HW := Lib.hid (blk_new w1 (.cells (wordsL.map Value.string).toArray 9 (0, 0)))
  have B2 := Lib.hid b2
  have M2 := Lib.hid (M1.out.trans (b2.mono M1.out.size))
  clear b2
  generalize w1.alloc (.cells (wordsL.map Value.string).toArray 9 (0, 0)) = w2 at *
  go_wp2_with fail
  have hl5 := Q1.out.2.1
  have HWd : Hid (∀ w' : World, Below w2.heap.size w2 w' → ∀ i, i < 12 → w'.cell? ⟨w1.heap.size, i, none⟩ = some (.string (wd i))) := by
    intro w' hk i hi
    rw [blk_cell (blk_call HW.out hk)]
    have hlw : i < wordsL.length := hi
    simp [wd, List.getD, hlw]
  have HKd : Hid (∀ g ∈ l, g.1 = 0 ∨ g.1 = 1 ∨ g.1 = 2 ∨ g.1 = 3) := fun g hg => (ok_parts Q1.out.1 hg).2
  go_loopw [13, 36] (fun p i wr => ∃ (k : Nat) (xs : List ByteArray), k ≤ l.length ∧ i = .int .i64 k ∧ PathR drop (l.take k) xs ∧ OwnS w2.heap.size w2 p xs wr) (fun _ i _ => l.length - (intOf i).toNat)
  case atStart => exact ⟨0, [], Nat.zero_le _, rfl, PathR.nil, nilS _ _ _ (Below.refl _ _) (Nat.le_refl _)⟩
  case round =>
    obtain ⟨k, xs, hk, rfl, hpath, hown⟩ := hrel
    have HP := Lib.hid hpath
    have HO := Lib.hid hown
    clear hpath hown
    by_cases hlt : k < l.length
    · have d0 : (k : Int) < (l.length : Int) := by omega
      obtain ⟨x, o, rfl, hcell, hcelb⟩ := HC.out k hlt
      have hbr := B2.out.trans (HO.out.2.1.mono B2.out.size)
      have g1 : wr.cell? ⟨x, o + k * 2, none⟩ = some (.int .i64 (l.getD k default).1) := by rw [hbr.cell (World.block_lt_of_cell? _ _ hcell)]; exact hcell
      have g3 : wr.cell? ⟨x, o + k * 2 + 1, none⟩ = some (.string (l.getD k default).2) := by rw [hbr.cell (World.block_lt_of_cell? _ _ hcelb)]; exact hcelb
      have hkd := HKd.out _ (getD_mem l k hlt)
      have HN : Hid (∀ n, n < 12 → PathR drop (l.take (k + 1)) (xs ++ sgP (l.getD k default) n drop)) := by
        intro n hn
        have e : l.take (k + 1) = l.take k ++ [l.getD k default] := by
          rw [List.take_add_one]
          simp only [List.getD, List.getElem?_eq_getElem hlt, Option.toList_some, Option.getD_some]
        rw [e]
        exact PathR.snoc HP.out _ n hn
      have hxz := path_len HP.out
      rw [List.length_take] at hxz
      clear hcell hcelb hbr
      generalize l.getD k default = g at *
      obtain ⟨s1, s2⟩ := g
      simp only at g1 g3 hkd
      have eb : Hid (xs.length ≤ 1000000000) := by show _ ≤ _; omega
      have HO9 := Lib.hid (HO.out.alloc (.cells #[.int .i64 s1, .string s2] 49 (0, 0)))
      have hn0 : ∃ n : Nat, n < 12 ∧ ((¬ (k : Int) < (n6 : Int) ∧ n = 0) ∨ ((k : Int) < (n6 : Int) ∧ wi (f6 k) 11 = (n : Int))) := by
        by_cases h6 : k < n6
        · have := wi_in (f6 k) 11 (by omega)
          exact ⟨(wi (f6 k) 11).toNat, by omega, Or.inr ⟨by omega, by omega⟩⟩
        · exact ⟨0, by omega, Or.inl ⟨by omega, rfl⟩⟩
      obtain ⟨n, hn12, hn⟩ := hn0
      have HNX := Lib.hid (HN.out n hn12)
      have e12 : (n : Int) < 12 := by omega
      have hwn := fun w' (h : Below w2.heap.size w2 w') => HWd.out w' h n hn12
      have HW1 := Lib.hid hwn
      clear hwn HN
      have hf : Hid ((k : Int) < (n6 : Int) → ∃ b6 o6, A6 = some ⟨b6, o6, none⟩ ∧ wr.cell? ⟨b6, o6 + k, none⟩ = some (.int .i64 (f6 k))) := by
        intro h
        exact ((K6.out.call M2.out).call HO.out.2.1).2 k (by omega)
      rcases hn with ⟨hn6a, rfl⟩ | ⟨hn6a, hwi⟩
      · have hwc := HW1.out _ (HO9.out.2.1)
        rcases hkd with rfl | rfl | rfl | rfl
        · go_wp2_with (first | (at_builtin; refine wpList_appS _ rfl (.tmp 57) (.tmp 60) rfl w2.heap.size w2 _ xs rfl (HO9.out.alloc _) ?b1 (wr.heap.size + 1) 1 1 [s2] rfl rfl (by omega) (blk_new1 _ _ _) ?_))
          case b1 => exact eb.out
          intro v4 w4 h4 _ _
          have H4 := Lib.hid h4
          clear h4
          go_wp2_with fail
          go_roundw
          case rel => exact ⟨k + 1, xs ++ [s2], by omega, by go_num, HNX.out, H4.out⟩
          case measure => simp [intOf]; omega
        · go_wp2_with (first | (at_builtin; refine wpList_appS _ rfl (.tmp 75) (.tmp 80) rfl w2.heap.size w2 _ xs rfl (HO9.out.alloc _) ?b1 (wr.heap.size + 1) 1 1 [wd 0] rfl rfl (by omega) (blk_new1 _ _ _) ?_))
          case b1 => exact eb.out
          intro v4 w4 h4 _ _
          have H4 := Lib.hid h4
          clear h4
          go_wp2_with fail
          go_roundw
          case rel => exact ⟨k + 1, xs ++ [wd 0], by omega, by go_num, HNX.out, H4.out⟩
          case measure => simp [intOf]; omega
        · cases drop
          · go_wp2_with (first | (at_builtin; refine wpList_appS _ rfl (.tmp 75) (.tmp 80) rfl w2.heap.size w2 _ xs rfl (HO9.out.alloc _) ?b1 (wr.heap.size + 1) 1 1 [wd 0] rfl rfl (by omega) (blk_new1 _ _ _) ?_))
            case b1 => exact eb.out
            intro v4 w4 h4 _ _
            have H4 := Lib.hid h4
            clear h4
            go_wp2_with fail
            go_roundw
            case rel => exact ⟨k + 1, xs ++ [wd 0], by omega, by go_num, HNX.out, H4.out⟩
            case measure => simp [intOf]; omega
          · have HO8 := Lib.hid HO9.out
            go_wp2_with (first | fail)
            go_roundw
            case rel => exact ⟨k + 1, xs ++ [], by omega, by go_num, HNX.out, by rw [List.append_nil]; exact HO8.out⟩
            case measure => simp [intOf]; omega
        · cases drop
          · have HNX2 : Hid (PathR false (l.take (k + 1)) (xs ++ [wd 0, wd 3])) := HNX.out
            have hm12 : 3 < 12 := by omega
            have j1 : IntKind.i64.wrap ((0 : Int) + 3) = 3 := by decide
            have j2 : IntKind.i64.wrap (3 : Int) = 3 := by decide
            have j3 : (3 : Int).tmod 12 = 3 := by decide
            have j4 : (3 : Int).toNat = 3 := by decide
            have KS : Hid (∀ w' : World, Below w2.heap.size w2 w' → w'.cell? ⟨w1.heap.size, 0, none⟩ = some (.string (wd 0)) ∧ w'.cell? ⟨w1.heap.size, 3, none⟩ = some (.string (wd 3))) :=
              fun w' hk => ⟨HWd.out w' hk 0 hn12, HWd.out w' hk 3 hm12⟩
            go_wp2_with (first | fail)
            generalize wr.alloc (.cells #[.int .i64 3, .string s2] 49) = w9 at *
            go_region_held3 (fun w' => w'.cell? ⟨w1.heap.size, 0, none⟩ = some (.string (wd 0)) ∧ w'.cell? ⟨w1.heap.size, 3, none⟩ = some (.string (wd 3)))
              (first | exact KS.out _ HO9.out.2.1.drew | exact KS.out _ (HO9.out.alloc _).drew.2.1 | exact KS.out _ H4.out.2.1)
              (first
                | (refine step_appS _ rfl (.tmp 90) (.tmp 103) rfl w2.heap.size w2 _ xs (by rfl) ((HO9.out.alloc _).drew) eb.out w9.heap.size 2 2 [wd 0, wd 3] (by rfl) rfl (by omega) (heap_alloc_new _ _) ?_
                   intro v4 w4 h4 _
                   have H4 := Lib.hid h4
                   clear h4))
            go_wp2_with fail
            go_roundw
            case rel => exact ⟨k + 1, xs ++ [wd 0, wd 3], by omega, by go_num, HNX2.out, H4.out⟩
            case measure => simp [intOf]; omega
          · have HO8 := Lib.hid HO9.out
            go_wp2_with (first | fail)
            go_roundw
            case rel => exact ⟨k + 1, xs ++ [], by omega, by go_num, HNX.out, by rw [List.append_nil]; exact HO8.out⟩
            case measure => simp [intOf]; omega
      · obtain ⟨b6, o6, rfl, hfc⟩ := hf.out hn6a
        have HWI := Lib.hid hwi
        have g6 : ∀ ob, (wr.alloc ob).cell? ⟨b6, o6 + k, none⟩ = some (.int .i64 (f6 k)) := fun ob => by
          rw [World.cell?_of_block (w := wr) (Below.heap_alloc _ _ _ (World.block_lt_of_cell? _ _ hfc))]; exact hfc
        have hwc := HW1.out _ (HO9.out.2.1)
        clear hfc hwi
        rcases hkd with rfl | rfl | rfl | rfl
        · go_wp2_with (first | (go_at_call 19; refine (within_nat _ 11 n _ (by omega) HWI.out).mono ?_; rintro e w' ⟨rfl, hww⟩; subst hww) | (at_builtin; refine wpList_appS _ rfl (.tmp 57) (.tmp 60) rfl w2.heap.size w2 _ xs rfl (HO9.out.alloc _) ?b1 (wr.heap.size + 1) 1 1 [s2] rfl rfl (by omega) (blk_new1 _ _ _) ?_))
          case b1 => exact eb.out
          intro v4 w4 h4 _ _
          have H4 := Lib.hid h4
          clear h4
          go_wp2_with fail
          go_roundw
          case rel => exact ⟨k + 1, xs ++ [s2], by omega, by go_num, HNX.out, H4.out⟩
          case measure => simp [intOf]; omega
        · go_wp2_with (first | (go_at_call 19; refine (within_nat _ 11 n _ (by omega) HWI.out).mono ?_; rintro e w' ⟨rfl, hww⟩; subst hww) | (at_builtin; refine wpList_appS _ rfl (.tmp 75) (.tmp 80) rfl w2.heap.size w2 _ xs rfl (HO9.out.alloc _) ?b1 (wr.heap.size + 1) 1 1 [wd n] rfl rfl (by omega) (blk_new1 _ _ _) ?_))
          case b1 => exact eb.out
          intro v4 w4 h4 _ _
          have H4 := Lib.hid h4
          clear h4
          go_wp2_with fail
          go_roundw
          case rel => exact ⟨k + 1, xs ++ [wd n], by omega, by go_num, HNX.out, H4.out⟩
          case measure => simp [intOf]; omega
        · cases drop
          · go_wp2_with (first | (go_at_call 19; refine (within_nat _ 11 n _ (by omega) HWI.out).mono ?_; rintro e w' ⟨rfl, hww⟩; subst hww) | (at_builtin; refine wpList_appS _ rfl (.tmp 75) (.tmp 80) rfl w2.heap.size w2 _ xs rfl (HO9.out.alloc _) ?b1 (wr.heap.size + 1) 1 1 [wd n] rfl rfl (by omega) (blk_new1 _ _ _) ?_))
            case b1 => exact eb.out
            intro v4 w4 h4 _ _
            have H4 := Lib.hid h4
            clear h4
            go_wp2_with fail
            go_roundw
            case rel => exact ⟨k + 1, xs ++ [wd n], by omega, by go_num, HNX.out, H4.out⟩
            case measure => simp [intOf]; omega
          · have HO8 := Lib.hid HO9.out
            go_wp2_with (first | (go_at_call 19; refine (within_nat _ 11 n _ (by omega) HWI.out).mono ?_; rintro e w' ⟨rfl, hww⟩; subst hww))
            go_roundw
            case rel => exact ⟨k + 1, xs ++ [], by omega, by go_num, HNX.out, by rw [List.append_nil]; exact HO8.out⟩
            case measure => simp [intOf]; omega
        · cases drop
          · obtain ⟨m, hm⟩ : ∃ m : Nat, (n + 3) % 12 = m := ⟨_, rfl⟩
            have hm12 : m < 12 := by omega
            have hm13 : (m : Int) < 12 := by omega
            have j1 : IntKind.i64.wrap ((n : Int) + 3) = (n : Int) + 3 := IntWalk.i64_in _ (by omega)
            have j2 : ((n : Int) + 3).tmod 12 = (m : Int) := by rw [← hm]; rfl
            have HNX2 : Hid (PathR false (l.take (k + 1)) (xs ++ [wd n, wd m])) := by rw [← hm]; exact HNX.out
            have KS : Hid (∀ w' : World, Below w2.heap.size w2 w' → w'.cell? ⟨w1.heap.size, n, none⟩ = some (.string (wd n)) ∧ w'.cell? ⟨w1.heap.size, m, none⟩ = some (.string (wd m))) :=
              fun w' hk => ⟨HWd.out w' hk n hn12, HWd.out w' hk m hm12⟩
            go_wp2_with (first | (go_at_call 19; refine (within_nat _ 11 n _ (by omega) HWI.out).mono ?_; rintro e w' ⟨rfl, hww⟩; subst hww))
            generalize wr.alloc (.cells #[.int .i64 3, .string s2] 49) = w9 at *
            go_region_held3 (fun w' => w'.cell? ⟨w1.heap.size, n, none⟩ = some (.string (wd n)) ∧ w'.cell? ⟨w1.heap.size, m, none⟩ = some (.string (wd m)))
              (first | exact KS.out _ HO9.out.2.1.drew | exact KS.out _ (HO9.out.alloc _).drew.2.1 | exact KS.out _ H4.out.2.1)
              (first
                | (refine step_appS _ rfl (.tmp 90) (.tmp 103) rfl w2.heap.size w2 _ xs (by rfl) ((HO9.out.alloc _).drew) eb.out w9.heap.size 2 2 [wd n, wd m] (by rfl) rfl (by omega) (heap_alloc_new _ _) ?_
                   intro v4 w4 h4 _
                   have H4 := Lib.hid h4
                   clear h4))
            go_wp2_with fail
            go_roundw
            case rel => exact ⟨k + 1, xs ++ [wd n, wd m], by omega, by go_num, HNX2.out, H4.out⟩
            case measure => simp [intOf]; omega
          · have HO8 := Lib.hid HO9.out
            go_wp2_with (first | (go_at_call 19; refine (within_nat _ 11 n _ (by omega) HWI.out).mono ?_; rintro e w' ⟨rfl, hww⟩; subst hww))
            go_roundw
            case rel => exact ⟨k + 1, xs ++ [], by omega, by go_num, HNX.out, by rw [List.append_nil]; exact HO8.out⟩
            case measure => simp [intOf]; omega
    · obtain rfl : k = l.length := by omega
      have hpl : PathR drop l xs := by have := HP.out; rwa [List.take_length] at this
      obtain ⟨hri, x, hmx⟩ := path_right hpl Q1.out.1 hl5
      have hmb := (mt_some (path := xs) Q1.out.1).1
      have hml := (mt_some (path := xs) Q1.out.1).2
      rw [hmx] at hmb hml
      have HMB : Hid (mtB l xs = true ∧ mtL l xs = x) := ⟨hmb, hml⟩
      have HMX := Lib.hid hmx
      have HRI := Lib.hid hri
      have hx8 := (right_parts hri).1
      have HXZ : Hid (∀ s ∈ xs, s.size ≤ 100000000) := by
        intro s hs
        rw [rightB, Bool.and_eq_true, Bool.and_eq_true, List.all_eq_true] at hri
        have := of_decide_eq_true (hri.2.1 s hs)
        omega
      have hxl : x.length ≤ 5 := by
        have h1 := (mt_names l xs x hmx).length_le
        have h2 : (prm l).length ≤ l.length := by unfold prm; rw [List.length_map]; exact List.length_filter_le _ _
        rw [List.length_map] at h1
        omega
      have bwr := M2.out.trans (HO.out.2.1.mono M2.out.size)
      have HBr := Lib.hid (HB.out.trans (bwr.mono HB.out.size))
      have GR := Lib.hid ((G1.out.call B2.out).call HO.out.2.1)
      have SR := Lib.hid HO.out.ss
      obtain ⟨Ap, np, cp, hvp⟩ := HO.out.ss.shape
      subst hvp
      have UU := Lib.hid (show (wr.cell? ⟨w.heap.size + 1, 0, none⟩ = some (.slice A3 n3 c3) ∧ wr.cell? ⟨w.heap.size + 1, 1, none⟩ = some (.slice A4 n4 c4) ∧ wr.cell? ⟨w.heap.size + 1, 2, none⟩ = some (.slice A5 n5 c5)) ∧ Ia wr A3 n3 f3 ∧ Ia wr A4 n4 f4 ∧ Ia wr A5 n5 f5 from ⟨blk3 (blk_call HY.out bwr), K3.out.call bwr, K4.out.call bwr, K5.out.call bwr⟩)
      clear bwr hmb hml hmx hri hpl HP HX HY HB K1 K2 K3 K4 K5 K6 M1 M2 HC G1 B2 HW HWd HKd HO
      go_wp2_with fail
      refine (match8 _ _ l xs _ GR.out SR.out HXZ.out (by omega)).mono ?_
      rintro e w3 ⟨v3, rfl, h3, h4⟩
      rw [HMB.out.1]
      rw [HMB.out.2] at h3
      have X3 := Lib.hid h3
      obtain ⟨Ax, cx, rfl, hcx, hcx0, _⟩ := h3
      have B3 := Lib.hid h4
      clear h4
      go_wp2_with fail
      refine (right16 _ l _ (GR.out.call B3.out)).mono ?_
      rintro e w4 ⟨rfl, h4⟩
      rw [Q1.out.1]
      have B4 := Lib.hid (B3.out.trans (h4.mono B3.out.size))
      have X4 := Lib.hid (X3.out.call h4)
      clear h4 B3 X3
      have wk := wi_in cut x.length (by omega)
      obtain ⟨cn, hcn⟩ : ∃ cn : Nat, wi cut x.length = (cn : Int) := ⟨(wi cut x.length).toNat, by omega⟩
      have hcl : cn ≤ x.length := by omega
      have HCN := Lib.hid hcn
      clear wk hcn
      have n1 : (cn : Int) ≤ (x.length : Int) := by omega
      have n2 : (cn : Int) ≤ (cx : Int) := by omega
      have xd := X4.out.rest cn hcl
      obtain ⟨Ad, hAd⟩ : ∃ Ad, (if cx = cn then Ax else Option.map (fun x => x.add (cn * 2)) Ax) = Ad := ⟨_, rfl⟩
      rw [hAd] at xd
      have XD := Lib.hid xd
      clear xd
      have XT := Lib.hid (X4.out.take cn hcl)
      have EP := Lib.hid (empP w4.heap.size w4 w4 (Below.refl _ _) (Nat.le_refl _)).drew
      have hd10 : (x.drop cn).length ≤ 10 := by rw [List.length_drop]; omega
      have ht10 : (x.take cn).length ≤ 10 := by rw [List.length_take]; omega
      go_wp2_with (first | (go_at_call 19; refine (within_nat _ x.length cn _ (by omega) HCN.out).mono ?_; rintro e w' ⟨rfl, hww⟩; cases hww))
      go_region_held3 (fun _ => True) (trivial)
        (first
          | (refine step_appPs _ rfl (.tmp 123) (.tmp 126) rfl w4.heap.size w4 _ [] (by rfl) EP (by simp) _ _ _ (x.drop cn) (by rfl) (XD.out.call (by first | exact ((Below.refl _ _).alloc (Nat.le_refl _) _).drew)) hd10 ?_
             intro v7 w7 h7 _
             have H7 := Lib.hid h7
             obtain ⟨A7, n7, c7, hv7⟩ := h7.ps.shape
             subst hv7
             clear h7)
          | (refine step_appPs _ rfl (.tmp 127) (.tmp 130) rfl w4.heap.size w4 _ _ (by rfl) H7.out (by simp; omega) _ _ _ (x.take cn) (by rfl) (XT.out.call H7.out.2.1) ht10 ?_
             intro v8 w8 h8 _
             have H8 := Lib.hid h8
             obtain ⟨A8, n8, c8, hv8⟩ := h8.ps.shape
             subst hv8
             clear h8))
      have BK := Lib.hid (fun ps => @bd_back l xs x ps Q1.out.1 HRI.out HMX.out)
      have hps : Hid (bdB l (x.drop cn ++ x.take cn) = true ∧ bdL l (x.drop cn ++ x.take cn) = xs) := by
        refine (BK.out (x.drop cn ++ x.take cn) ?_ ?_).2.1 ?_
        · intro p hp
          rw [List.mem_append] at hp
          exact hp.elim List.mem_of_mem_drop List.mem_of_mem_take
        · intro p hp
          rw [← List.take_append_drop cn x, List.mem_append] at hp
          rw [List.mem_append]
          exact hp.symm
        · rw [List.length_append, List.length_drop, List.length_take]; omega
      have HPZ : Hid (∀ p ∈ x, p.2.size ≤ 100000000) := by
        intro p hp
        have hri := HRI.out
        rw [rightB, Bool.and_eq_true, Bool.and_eq_true, List.all_eq_true] at hri
        have := mt_vals l xs x HMX.out (fun s hs => (of_decide_eq_true (hri.2.1 s hs)).2) hx8 p hp
        omega
      have h8 := H8.out
      rw [List.nil_append] at h8
      have HPM : Hid (∀ p ∈ x.drop cn ++ x.take cn, p ∈ x) := by
        intro p hp
        rw [List.mem_append] at hp
        exact hp.elim List.mem_of_mem_drop List.mem_of_mem_take
      have hpl8 : (x.drop cn ++ x.take cn).length ≤ 1000 := by rw [List.length_append, List.length_drop, List.length_take]; omega
      obtain ⟨PS, hPS⟩ : ∃ PS, x.drop cn ++ x.take cn = PS := ⟨_, rfl⟩
      rw [hPS] at h8 HPM hps hpl8
      have P8 := Lib.hid h8
      clear h8 H8 hPS
      clear EP XD XT H7
      go_wp2_with fail
      refine (build9 _ _ l PS _ ((GR.out.call B4.out).call P8.out.2.1) P8.out.ps (by omega) (fun p hp => HPZ.out p (HPM.out p hp))).mono ?_
      rintro e w9 ⟨v9, rfl, h9, h10⟩
      rw [hps.out.1]
      rw [hps.out.2] at h9
      have Y9 := Lib.hid h9
      obtain ⟨A9, n9, c9, rfl⟩ := h9.shape
      have B9 := Lib.hid ((B4.out.trans (P8.out.2.1.mono B4.out.size)).trans (h10.mono (Nat.le_trans B4.out.size P8.out.2.1.size)))
      have X9 := Lib.hid ((X4.out.call P8.out.2.1).call h10)
      clear h9 h10 P8 X4 B4 hps HPM
      go_wp2_with fail
      refine (sameS _ _ xs xs _ Y9.out (SR.out.call B9.out) (by omega)).mono ?_
      rintro e w10 ⟨rfl, h10⟩
      rw [decide_eq_true rfl]
      have B10 := Lib.hid (B9.out.trans (h10.mono B9.out.size))
      have X10 := Lib.hid (X9.out.call h10)
      clear h10 B9 X9 Y9
      have EP := Lib.hid (empP w10.heap.size w10 w10 (Below.refl _ _) (Nat.le_refl _))
      have XE := Lib.hid (X10.out.call ((Below.refl w10.heap.size w10).alloc (Nat.le_refl _) (.cells #[] 32 (0, 0))))
      go_wp2_with (first
        | (at_builtin; refine wpList_appPs _ rfl (.tmp 148) (.tmp 149) rfl w10.heap.size w10 _ [] rfl EP.out (by simp) Ax x.length cx x rfl XE.out (by omega) ?_))
      intro v11 w11 h11 _
      have H11 := Lib.hid h11
      obtain ⟨A11, n11, c11, hv11⟩ := h11.ps.shape
      subst hv11
      clear h11 EP XE
      go_wp2_with (first
        | (at_builtin; refine wpList_appP _ rfl (.tmp 150) (.tmp 152) rfl w10.heap.size w10 _ x rfl (H11.out.alloc _) (by omega) w11.heap.size 1 1 [(⟨#[110, 111, 110, 101]⟩, ⟨#[49]⟩)] rfl rfl (by omega) (heap_alloc_new _ _) ?_))
      intro v12 w12 h12 _ _
      have H12 := Lib.hid h12
      obtain ⟨A12, n12, c12, hv12⟩ := h12.ps.shape
      subst hv12
      clear h12 H11
      have HNB := Lib.hid (bd_none1 Q1.out.1 HRI.out HMX.out Q1.out.2.2 ⟨#[49]⟩)
      go_wp2_with fail
      refine (build9 _ _ l _ _ (((GR.out.call B10.out)).call H12.out.2.1) H12.out.ps (by rw [List.length_append]; simp; omega) ?_).mono ?_
      · intro p hp
        rw [List.mem_append, List.mem_singleton] at hp
        rcases hp with hp | rfl
        · exact HPZ.out p hp
        · decide
      rintro e w13 ⟨v13, rfl, h13, h14⟩
      rw [HNB.out]
      obtain ⟨A13, n13, c13, rfl⟩ := h13.shape
      have B13 := Lib.hid ((B10.out.trans (H12.out.2.1.mono B10.out.size)).trans (h14.mono (Nat.le_trans B10.out.size H12.out.2.1.size)))
      have X13 := Lib.hid ((X10.out.call H12.out.2.1).call h14)
      clear h13 h14 H12 X10 B10 HNB
      go_upto_if 159 with fail
      go_cut [25] from 159 (fun v wz => v = .bool false ∧ Below w13.heap.size w13 wz)
      case first =>
        by_cases c1 : x.length = 0
        · have d9 : decide ((0 : Int) < (x.length : Int)) = false := decide_eq_false (by omega)
          have d8 : decide (0 < x.length) = false := decide_eq_false (by omega)
          clear c1
          (try rw [d9])
          (try rw [d8])
          go_wp2_with fail
          go_meet
          exact ⟨rfl, Below.refl _ _⟩
        · have d9 : decide ((0 : Int) < (x.length : Int)) = true := decide_eq_true (by omega)
          have d8 : decide (0 < x.length) = true := decide_eq_true (by omega)
          have c0 : (0 : Int) < (x.length : Int) := by omega
          have c0n : 0 < x.length := by omega
          obtain ⟨Ax', cx', hxe, _, _, hxc⟩ := X13.out
          obtain ⟨bx, ox, hax, hx0, hx1⟩ := hxc 0 (by omega)
          simp only [Value.slice.injEq] at hxe
          obtain ⟨rfl, _, rfl⟩ := hxe
          subst hax
          rw [show ox + 0 * 2 = ox by omega] at hx0 hx1
          have hx0m := pr_mem x 0 (by omega)
          have HT := Lib.hid (bd_twice Q1.out.1 HRI.out HMX.out _ hx0m)
          have HPZ0 := Lib.hid (HPZ.out _ hx0m)
          clear hxc hx0m
          generalize x.getD 0 default = x0 at *
          obtain ⟨xn, xv⟩ := x0
          simp only at hx0 hx1
          have hxl0 := World.block_lt_of_cell? _ _ hx0
          have KS : Hid (∀ w' : World, Below w13.heap.size w13 w' → w'.cell? ⟨bx, ox, none⟩ = some (.string xn) ∧ w'.cell? ⟨bx, ox + 1, none⟩ = some (.string xv)) :=
            fun w' hk => ⟨(hk.cell hxl0).trans hx0, (hk.cell (World.block_lt_of_cell? _ _ hx1)).trans hx1⟩
          have EA : Hid (OwnP w13.heap.size w13 (.slice (some ⟨w13.heap.size, 0, none⟩) 0 0) [] (w13.alloc (.cells #[] 32 (0, 0))).drew) := (empP w13.heap.size w13 w13 (Below.refl _ _) (Nat.le_refl _)).drew
          have EB : Hid (OwnP w13.heap.size w13 (.slice (some ⟨w13.heap.size, 0, none⟩) 0 0) [] ((w13.alloc (.cells #[] 32 (0, 0))).alloc (.cells #[.string xn, .string xv] 32 (0, 0))).drew) := ((empP w13.heap.size w13 w13 (Below.refl _ _) (Nat.le_refl _)).alloc _).drew
          have EC : Hid (OwnP w13.heap.size w13 (.slice (some ⟨w13.heap.size + 1, 0, none⟩) 0 0) [] ((w13.alloc (.cells #[.string xn, .string xv] 32 (0, 0))).alloc (.cells #[] 32 (0, 0))).drew) := (empP1 w13 _).drew
          have NB : Hid (((w13.alloc (.cells #[] 32 (0, 0))).alloc (.cells #[.string xn, .string xv] 32 (0, 0))).drew.heap[w13.heap.size + 1]? = some (.cells #[.string xn, .string xv] 32 (0, 0))) := blk_new1 _ _ _
          have NC : Hid (((w13.alloc (.cells #[.string xn, .string xv] 32 (0, 0))).alloc (.cells #[] 32 (0, 0))).drew.heap[w13.heap.size]? = some (.cells #[.string xn, .string xv] 32 (0, 0))) := blk_alloc (blk_new w13 _) _
          have D1 : Hid (Below w13.heap.size w13 (w13.alloc (.cells #[.string xn, .string xv] 32 (0, 0))).drew) := ((Below.refl _ _).alloc (Nat.le_refl _) _).drew
          have hx10 : x.length ≤ 10 := by omega
          (try rw [d9])
          (try rw [d8])
          clear hx0 hx1 d9 d8 hxl0 c1
          go_wp2_with fail
          go_region_held3 (fun w' => w'.cell? ⟨bx, ox, none⟩ = some (.string xn) ∧ w'.cell? ⟨bx, ox + 1, none⟩ = some (.string xv))
            (first | exact KS.out _ ((Below.refl _ _).drew) | exact KS.out _ EA.out.2.1 | exact KS.out _ EB.out.2.1 | exact KS.out _ EC.out.2.1 | exact KS.out _ D1.out | exact KS.out _ H15.out.2.1 | exact KS.out _ (H15.out.alloc _).2.1 | exact KS.out _ H16.out.2.1 | exact KS.out _ B17.out)
            (first
              | (first
                  | (refine step_appPs _ rfl (.tmp 162) (.tmp 163) rfl w13.heap.size w13 _ [] (by rfl) EA.out (by simp) _ _ _ x (by rfl) (X13.out.call EA.out.2.1) hx10 ?_)
                  | (refine step_appPs _ rfl (.tmp 162) (.tmp 163) rfl w13.heap.size w13 _ [] (by rfl) EB.out (by simp) _ _ _ x (by rfl) (X13.out.call EB.out.2.1) hx10 ?_)
                  | (refine step_appPs _ rfl (.tmp 162) (.tmp 163) rfl w13.heap.size w13 _ [] (by rfl) EC.out (by simp) _ _ _ x (by rfl) (X13.out.call EC.out.2.1) hx10 ?_)
                 intro v15 w15 h15 g15
                 first
                   | have NK : Hid (w15.heap[w13.heap.size + 1]? = some (.cells #[.string xn, .string xv] 32 (0, 0))) := keep_blk g15 NB.out (by simp [Value.ownBlock])
                   | have NK : Hid (w15.heap[w13.heap.size]? = some (.cells #[.string xn, .string xv] 32 (0, 0))) := keep_blk g15 NC.out (by simp [Value.ownBlock])
                   | skip
                 obtain ⟨A15, n15, c15, hv15⟩ := h15.ps.shape
                 subst hv15
                 have H15 := Lib.hid h15
                 clear h15 g15)
              | (first
                  | (refine step_appP _ rfl (.tmp 164) (.tmp 168) rfl w13.heap.size w13 _ x (by rfl) (H15.out.alloc _) (by omega) w15.heap.size 1 1 [(xn, xv)] (by rfl) rfl (by omega) (heap_alloc_new _ _) ?_)
                  | (refine step_appP _ rfl (.tmp 164) (.tmp 168) rfl w13.heap.size w13 _ x (by rfl) H15.out (by omega) _ 1 1 [(xn, xv)] (by rfl) rfl (by omega) NK.out ?_)
                 intro v16 w16 h16 _
                 obtain ⟨A16, n16, c16, hv16⟩ := h16.ps.shape
                 subst hv16
                 have H16 := Lib.hid h16
                 clear h16)
              | (go_at_call 9; refine (build9 _ _ l _ _ (((GR.out.call B13.out)).call H16.out.2.1) H16.out.ps (by rw [List.length_append]; simp; omega) (by
                    intro p hp
                    rw [List.mem_append, List.mem_singleton] at hp
                    rcases hp with hp | rfl
                    · exact HPZ.out p hp
                    · exact HPZ0.out)).mono ?_
                 rintro e w17 ⟨v17, rfl, h17, h18⟩
                 rw [HT.out]
                 obtain ⟨A17, n17, c17, rfl⟩ := h17.shape
                 have B17 := Lib.hid (H16.out.2.1.trans (h18.mono H16.out.2.1.size))
                 clear h17 h18))
          all_goals (go_wp2_with fail; go_meet; exact ⟨rfl, B17.out⟩)
      case rest =>
        obtain ⟨rfl, h17⟩ := hcut
        have B17 := Lib.hid (B13.out.trans (h17.mono B13.out.size))
        have F43 := field43
        clear h17
        obtain ⟨⟨u0, u1, u2⟩, i3, i4, i5⟩ := UU.out
        have q0 : wc.cell? ⟨w.heap.size + 1, 0, none⟩ = some (.slice A3 n3 c3) := by rw [B17.out.cell (World.block_lt_of_cell? _ _ u0)]; exact u0
        have q1 : wc.cell? ⟨w.heap.size + 1, 1, none⟩ = some (.slice A4 n4 c4) := by rw [B17.out.cell (World.block_lt_of_cell? _ _ u1)]; exact u1
        have q2 : wc.cell? ⟨w.heap.size + 1, 2, none⟩ = some (.slice A5 n5 c5) := by rw [B17.out.cell (World.block_lt_of_cell? _ _ u2)]; exact u2
        have I3 := Lib.hid (i3.call B17.out)
        have I4 := Lib.hid (i4.call B17.out)
        have I5 := Lib.hid (i5.call B17.out)
        clear u0 u1 u2 i3 i4 i5
        go_wp2_with fail
        refine (url13 A3 A4 A5 n3 c3 n4 c4 n5 c5 f3 f4 f5 _ I3.out I4.out I5.out).mono ?_
        intro e w20 hkp
        obtain ⟨vp, vq, o, oq, rfl, hs, hq, hk, hb⟩ := hkp
        obtain ⟨Ao, no, co, rfl⟩ := hs.shape
        obtain ⟨Aq, nq, cq, rfl⟩ := hq.shape
        have S20 := Lib.hid hs
        have B20 := Lib.hid (B17.out.trans (hb.mono B17.out.size))
        have ho5 := hk.1
        have RO := Lib.hid (keep_right hk.1 hk.2.2.1)
        have OZ : Hid (∀ s ∈ o, s.size ≤ 64) := by
          intro s hs
          have hri := RO.out
          rw [rightB, Bool.and_eq_true, Bool.and_eq_true, List.all_eq_true] at hri
          exact (of_decide_eq_true (hri.2.1 s hs)).2
        clear hs hq hk hb q0 q1 q2 I3 I4 I5 B17
        go_wp2_with fail
        refine (match8 _ _ l o _ (GR.out.call B20.out) S20.out (fun s hs => Nat.le_trans (OZ.out s hs) (by omega)) (by omega)).mono ?_
        rintro e w21 ⟨v21, rfl, h21, h22⟩
        have ms1 := (mt_some (path := o) Q1.out.1).1
        have ms2 := (mt_some (path := o) Q1.out.1).2
        have Z21 := Lib.hid h21
        obtain ⟨Az, nz, cz, rfl⟩ := h21.shape
        have B21 := Lib.hid (B20.out.trans (h22.mono B20.out.size))
        have S21 := Lib.hid (S20.out.call h22)
        clear h21 h22 S20 B20
        rcases hmz : mtR l o with _ | z
        · rw [hmz] at ms1
          rw [ms1]
          clear ms1 ms2
          go_wp2_with fail
          refine (patRuns_any _).mono ?_
          rintro e w30 ⟨rfl, h30⟩
          have B30 := Lib.hid (B21.out.trans (h30.mono B21.out.size))
          clear h30
          go_wp2_with fail
          go_ret
          exact ⟨rfl, HBr.out.trans (B30.out.mono HBr.out.size)⟩
        · rw [hmz] at ms1 ms2
          rw [ms1]
          have z21 := Z21.out
          rw [ms2] at z21
          have Z22 := Lib.hid z21
          have HMZ := Lib.hid hmz
          clear z21 ms1 ms2 Z21 hmz
          have hb2 : Hid (bdB l z = true ∧ bdL l z = o) := (bd_back Q1.out.1 RO.out HMZ.out (fun _ h => h) (fun _ h => h)).2.1 rfl
          have hzl : z.length ≤ 5 := by
            have h1 := (mt_names l o z HMZ.out).length_le
            have h2 : (prm l).length ≤ l.length := by unfold prm; rw [List.length_map]; exact List.length_filter_le _ _
            rw [List.length_map] at h1
            omega
          have ZS := Lib.hid (mt_vals l o z HMZ.out OZ.out (by omega))
          go_wp2_with fail
          refine (build9 _ _ l z _ (GR.out.call B21.out) Z22.out (by omega) (fun p hp => Nat.le_trans (ZS.out p hp) (by omega))).mono ?_
          rintro e w23 ⟨v23, rfl, h23, h24⟩
          rw [hb2.out.1]
          rw [hb2.out.2] at h23
          have Y23 := Lib.hid h23
          obtain ⟨A23, n23, c23, rfl⟩ := h23.shape
          have B23 := Lib.hid (B21.out.trans (h24.mono B21.out.size))
          have S23 := Lib.hid (S21.out.call h24)
          clear h23 h24 S21 B21
          go_wp2_with fail
          refine (sameS _ _ o o _ Y23.out S23.out (by omega)).mono ?_
          rintro e w24 ⟨rfl, h24⟩
          rw [decide_eq_true rfl]
          have B24 := Lib.hid (B23.out.trans (h24.mono B23.out.size))
          clear h24 B23
          go_wp2_with fail
          refine (patRuns_any _).mono ?_
          rintro e w30 ⟨rfl, h30⟩
          have B30 := Lib.hid (B24.out.trans (h30.mono B24.out.size))
          clear h30
          go_wp2_with fail
          go_ret
          exact ⟨rfl, HBr.out.trans (B30.out.mono HBr.out.size)⟩
end Go.Proofs.YtdlljccabkmfiaaDoor
