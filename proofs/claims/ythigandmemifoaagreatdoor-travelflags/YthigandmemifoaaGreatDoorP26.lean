/-
  Put together: RefMatch.
-/
import Derived.Test.YthigandmemifoaaGreatDoorP24
import Derived.Test.YthigandmemifoaaGreatDoorP15
import Derived.Test.YthigandmemifoaaGreatDoorP25
namespace Go.Proofs.YthigandmemifoaaGreatDoor
open Go.RowKit Go.PlainAid
set_option maxRecDepth 100000

theorem encS_le (x : ByteArray) : (encS x).size ≤ 3 * x.size := by
  rw [encS, st_size]
  have := encL_len (bs x)
  rwa [bs_len] at this

theorem keep49 {B : Nat} {w0 W w' : World} {v : Value} {xs : List Pr} {k : Nat} {cs : Array Value} (ho : OwnP B w0 v xs W) (h : W.heap[k]? = some (.cells cs 28 (0, 0))) (hg : W.grownBy w' v.ownBlock) : w'.heap[k]? = some (.cells cs 28 (0, 0)) := by
  refine (hg.block k (blk_lt h) ?_).trans h
  intro e
  obtain ⟨_, ⟨rfl, _⟩ | ⟨g, cap, cur, rfl, _, hgg, _⟩⟩ := ho.1
  · cases e
  · simp only [Value.ownBlock, Option.some.injEq] at e
    subst e
    rw [hgg] at h
    simp at h

set_option maxHeartbeats 3200000 in
set_option maxRecDepth 100000 in
theorem match14 (v1 v2 : Value) (l : List Sg) (path : List ByteArray) (w : World) (h1 : Gs w v1 l) (h2 : Ss w v2 path) (hs : ∀ s ∈ path, s.size ≤ 100000000) (hl : path.length ≤ 1000) (hgs : ∀ g ∈ l, g.2.size ≤ 9223372036854775807) :
    Calls Tryz.prog 73 #[v1, v2] w fun e w' => ∃ v, e = .returned (.tuple #[v, .bool (mtB l path)]) ∧ Ps w' v (mtL l path) ∧ Below w.heap.size w w' := by
  by_cases hr : rgB l = true
  · have HG := Lib.hid h1
    have HS := Lib.hid h2
    have hl8 := rg_len hr
    have HE := Lib.hid (mt_some (path := path) hr)
    have HZ := Lib.hid hs
    have HGS := Lib.hid hgs
    obtain ⟨A, cap, rfl, hcap, _, hc⟩ := h1
    have HC := Lib.hid hc
    obtain ⟨A2, c2, rfl, hc2, _, hp⟩ := h2
    have HP := Lib.hid hp
    clear hc hp hs hgs
    go_enter Tryz.func73, Tryz.ntmps73
    go_wp2_with (first | (go_at_call 72; refine (rightPat17 _ _ _ HG.out HGS.out).mono ?_; rintro e w6 ⟨rfl, h6⟩; rw [hr]; have H6 := Lib.hid h6; clear h6))
    go_loopw [6, 16] (fun p i wr => ∃ (k : Nat) (ps : List Pr), k ≤ l.length ∧ i = .int .i64 k ∧ OwnP w6.heap.size w6 p ps wr ∧ RmMid l path k ps) (fun _ i _ => l.length - (intOf i).toNat)
    case atStart => exact ⟨0, [], Nat.zero_le _, rfl, nilP _ _ _ (Below.refl _ _) (Nat.le_refl _), by omega, by simp, by simp⟩
    case round =>
      obtain ⟨k, ps, hk, rfl, hown, hmid⟩ := hrel
      have HO := Lib.hid hown
      have HM := Lib.hid hmid
      have hkp := hmid.1
      have hpsk := hmid.2.2
      obtain ⟨A7, n7, c7, hv7⟩ := hown.ps.shape
      subst hv7
      clear hown hmid
      by_cases hlt : k < l.length
      · have d0 : (k : Int) < (l.length : Int) := by omega
        obtain ⟨x, o, rfl, hcell, hcelb⟩ := HC.out k hlt
        have hbz := H6.out.trans (HO.out.2.1.mono H6.out.size)
        have g1 : wr.cell? ⟨x, o + k * 2, none⟩ = some (.int .i64 (l.getD k default).1) := by rw [hbz.cell (World.block_lt_of_cell? _ _ hcell)]; exact hcell
        have g3 : wr.cell? ⟨x, o + k * 2 + 1, none⟩ = some (.string (l.getD k default).2) := by rw [hbz.cell (World.block_lt_of_cell? _ _ hcelb)]; exact hcelb
        have HBZ := Lib.hid hbz
        obtain ⟨⟨s1, s2⟩, hg⟩ : ∃ g, l.getD k default = g := ⟨_, rfl⟩
        have HCS := Lib.hid (rm_cases hr hlt HM.out s1 s2 hg)
        rw [hg] at g1 g3
        simp only at g1 g3
        clear hcell hcelb hbz hg
        have HX := Lib.hid (blk_new wr (.cells #[.int .i64 s1, .string s2] 28 (0, 0)))
        have HY := Lib.hid ((Below.refl wr.heap.size wr).alloc (Nat.le_refl _) (.cells #[.int .i64 s1, .string s2] 28 (0, 0)))
        have HO9 := Lib.hid (HO.out.alloc (.cells #[.int .i64 s1, .string s2] 28 (0, 0)))
        have HB9 := Lib.hid (HBZ.out.trans (HY.out.mono HBZ.out.size))
        have eb : Hid (ps.length ≤ 1000000000) := by show _ ≤ _; omega
        have d5 : IntKind.i64.wrap ((k : Int) + 1) = (k : Int) + 1 := IntWalk.i64_in _ (by omega)
        rcases HCS.out with ⟨rfl, hR⟩ | ⟨rfl, hkl, hR⟩ | ⟨hss, hkl, hR⟩ | ⟨rfl, hkl, hne, hR⟩ | ⟨rfl, hkl, heq, hR⟩ | ⟨hss, hkl, hR⟩
        · have HE2 : Hid (mtB l path = true ∧ mtL l path = ps ++ [(s2, jnT (path.drop k))]) := ⟨by rw [HE.out.1, hR]; rfl, by rw [HE.out.2, hR]; rfl⟩
          clear hR
          go_wp2_with fail
          generalize wr.alloc (.cells #[.int .i64 3, .string s2] 28) = w9 at *
          generalize wr.heap.size = R at *
          go_loopw [9, 10] (fun r j wz => ∃ (m : Nat), k ≤ m ∧ m ≤ path.length ∧ j = .int .i64 m ∧ r = .string (jnT ((path.drop k).take (m - k))) ∧ Below w9.heap.size w9 wz) (fun _ j _ => path.length - (intOf j).toNat)
          case atStart => exact ⟨k, Nat.le_refl _, hkp, rfl, by rw [Nat.sub_self]; rfl, Below.refl _ _⟩
          case round =>
            obtain ⟨m, hm1, hm2, rfl, rfl, hbm⟩ := hrel
            have HBM := Lib.hid hbm
            clear hbm
            by_cases hlm : m < path.length
            · have d1 : (m : Int) < (path.length : Int) := by omega
              obtain ⟨b2, o2, rfl, hpc⟩ := HP.out m hlm
              have hb3 := HB9.out.trans (HBM.out.mono HB9.out.size)
              have gp : wr.cell? ⟨b2, o2 + m, none⟩ = some (.string (path.getD m default)) := by rw [hb3.cell (World.block_lt_of_cell? _ _ hpc)]; exact hpc
              have hxs := HZ.out _ (getD_mem path m hlm)
              have htk : (path.drop k).take (m + 1 - k) = (path.drop k).take (m - k) ++ [path.getD m default] := by
                rw [show m + 1 - k = (m - k) + 1 by omega, List.take_add_one]
                congr 1
                have : (path.drop k)[m - k]? = some (path.getD m default) := by
                  rw [List.getElem?_drop, show k + (m - k) = m by omega]
                  simp [List.getD, hlm]
                rw [this]
                rfl
              have HTK := Lib.hid htk
              have hez := encS_le (path.getD m default)
              have hjz := jn_size ((path.drop k).take (m - k)) 100000000 (fun s hs => HZ.out s (List.mem_of_mem_drop (List.mem_of_mem_take hs)))
              have hjl : ((path.drop k).take (m - k)).length = m - k := by rw [List.length_take, List.length_drop]; omega
              rw [hjl] at hjz
              have hjz2 : (jnT ((path.drop k).take (m - k))).size ≤ 1000 * (3 * 100000000 + 1) := Nat.le_trans hjz (Nat.mul_le_mul_right _ (by omega))
              have d6 : IntKind.i64.wrap ((m : Int) + 1) = (m : Int) + 1 := IntWalk.i64_in _ (by omega)
              clear hpc hb3 htk hjz
              by_cases hkm : k < m
              · have d2 : (k : Int) < (m : Int) := by omega
                have HJ := Lib.hid (jn_snoc ((path.drop k).take (m - k)) (path.getD m default) (by intro e; rw [e] at hjl; simp at hjl; omega))
                clear hjl
                generalize path.getD m default = X at *
                generalize (path.drop k).take (m - k) = a at *
                generalize jnT a = T at *
                have n1 : ¬ 9223372036854775807 < T.size + 1 := by omega
                have n2 : ¬ 9223372036854775807 < T.size + 1 + (encS X).size := by omega
                go_wp2_with (first | (go_at_call 76; refine (encodeR _ _ (by omega)).mono ?_; rintro e w7 ⟨rfl, h7⟩; have H7 := Lib.hid h7; clear h7))
                go_roundw
                case rel => exact ⟨m + 1, by omega, by omega, by go_num, by rw [HTK.out, HJ.out], HBM.out.trans (H7.out.mono HBM.out.size)⟩
                case measure => simp [intOf]; omega
              · obtain rfl : m = k := by omega
                have d2 : ¬ (m : Int) < (m : Int) := by omega
                have HA : Hid ((path.drop m).take (m - m) = []) := by show _ = _; rw [Nat.sub_self]; rfl
                have HJ := Lib.hid (jn_one (path.getD m default))
                have HT0 : Hid (jnT ((path.drop m).take (m - m)) = ⟨#[]⟩) := by show _ = _; rw [HA.out]; decide +kernel
                rw [HT0.out]
                clear hjl hjz2
                generalize path.getD m default = X at *
                have hae : (⟨#[]⟩ : ByteArray) ++ encS X = encS X := by apply bs_inj; rw [bs_append]; rfl
                have n2 : ¬ 9223372036854775807 < (encS X).size := by omega
                go_wp2_with (first | (go_at_call 76; refine (encodeR _ _ (by omega)).mono ?_; rintro e w7 ⟨rfl, h7⟩; have H7 := Lib.hid h7; clear h7))
                go_roundw
                case rel => exact ⟨m + 1, by omega, by omega, by go_num, by rw [HTK.out, HA.out, List.nil_append, HJ.out], HBM.out.trans (H7.out.mono HBM.out.size)⟩
                case measure => simp [intOf]; omega
            · obtain rfl : m = path.length := by omega
              have hTT : (path.drop k).take (path.length - k) = path.drop k := List.take_of_length_le (by rw [List.length_drop]; omega)
              rw [hTT] at *
              have HO3 := Lib.hid (HO9.out.call HBM.out)
              obtain ⟨k0, k1, _, _⟩ := blk2 (blk_call HX.out HBM.out)
              generalize jnT (path.drop k) = T at *
              go_wp2_with (first | (at_builtin; refine wpList_appP _ rfl (.tmp 44) (.tmp 49) rfl w6.heap.size w6 _ ps rfl (HO3.out.alloc _) ?b1 wr.heap.size 1 1 [(s2, T)] rfl rfl (by omega) (heap_alloc_new _ _) ?_))
              case b1 => exact eb.out
              intro v4 w4 h4 hg4 _
              have H4 := Lib.hid h4
              obtain ⟨A8, n8, c8, hv8⟩ := h4.ps.shape
              subst hv8
              clear h4 hg4
              have HB4 := Lib.hid (H6.out.trans (H4.out.2.1.mono H6.out.size))
              go_wp2
              rw [HE2.out.1, HE2.out.2]
              go_ret2
              exact ⟨_, rfl, H4.out.ps, HB4.out⟩
        · have HE2 : Hid (mtB l path = true ∧ mtL l path = ps) := ⟨by rw [HE.out.1, hR]; rfl, by rw [HE.out.2, hR]; rfl⟩
          have HPS := Lib.hid HO9.out.ps
          clear hR
          subst hkl
          go_wp2
          rw [HE2.out.1, HE2.out.2]
          go_ret2
          exact ⟨_, rfl, HPS.out, HB9.out⟩
        · have HE2 : Hid (mtB l path = false ∧ mtL l path = []) := ⟨by rw [HE.out.1, hR]; rfl, by rw [HE.out.2, hR]; rfl⟩
          clear hR
          subst hkl
          have c3 : (path.length : Int) ≤ (path.length : Int) := by omega
          rcases hss with rfl | rfl
          all_goals
            go_wp2_with fail
            go_region
            go_wp2
            rw [HE2.out.1, HE2.out.2]
            go_ret2
            exact ⟨_, rfl, ps_nil _, HB9.out.drew⟩
        · have HE2 : Hid (mtB l path = false ∧ mtL l path = []) := ⟨by rw [HE.out.1, hR]; rfl, by rw [HE.out.2, hR]; rfl⟩
          have c3 : ¬ (path.length : Int) ≤ (k : Int) := by omega
          have c5 : (k : Int) < (path.length : Int) := by omega
          obtain ⟨b2, o2, rfl, hpc⟩ := HP.out k hkl
          have gp : wr.cell? ⟨b2, o2 + k, none⟩ = some (.string (path.getD k default)) := by rw [HBZ.out.cell (World.block_lt_of_cell? _ _ hpc)]; exact hpc
          have q1 := str_bne (path.getD k default) s2 hne
          clear hR hne hpc
          generalize path.getD k default = X at *
          have gp9 : (wr.alloc (.cells #[.int .i64 0, .string s2] 28)).cell? ⟨b2, o2 + k, none⟩ = some (.string X) := by rw [HY.out.cell (World.block_lt_of_cell? _ _ gp)]; exact gp
          go_wp2_with fail
          generalize wr.alloc (.cells #[.int .i64 0, .string s2] 28) = w9 at *
          generalize wr.heap.size = R at *
          obtain ⟨k0, k1, _, _⟩ := blk2 HX.out
          have d8 : decide (path.length ≤ k) = false := decide_eq_false (by omega)
          have d9 : ¬ path.length ≤ k := by omega
          have KS : Hid (∀ w' : World, Below w9.heap.size w9 w' → w'.cell? ⟨R, 0, none⟩ = some (.int .i64 0) ∧ w'.cell? ⟨R, 1, none⟩ = some (.string s2) ∧ w'.cell? ⟨b2, o2 + k, none⟩ = some (.string X)) := by
            intro w' hk
            obtain ⟨a, b, _, _⟩ := blk2 (blk_call HX.out hk)
            exact ⟨a, b, (hk.cell (World.block_lt_of_cell? _ _ gp9)).trans gp9⟩
          go_region_held3 (fun w' => w'.cell? ⟨R, 0, none⟩ = some (.int .i64 0) ∧ w'.cell? ⟨R, 1, none⟩ = some (.string s2) ∧ w'.cell? ⟨b2, o2 + k, none⟩ = some (.string X))
            (first | exact KS.out _ ((Below.refl _ _).drew)) (fail)
          go_wp2
          rw [HE2.out.1, HE2.out.2]
          go_ret2
          exact ⟨_, rfl, ps_nil _, HB9.out.drew⟩
        · have c3 : ¬ (path.length : Int) ≤ (k : Int) := by omega
          have c5 : (k : Int) < (path.length : Int) := by omega
          obtain ⟨b2, o2, rfl, hpc⟩ := HP.out k hkl
          have gp : wr.cell? ⟨b2, o2 + k, none⟩ = some (.string (path.getD k default)) := by rw [HBZ.out.cell (World.block_lt_of_cell? _ _ hpc)]; exact hpc
          have q1 := str_beq (path.getD k default) s2 heq
          have HRM := Lib.hid hR
          clear hR heq hpc
          generalize path.getD k default = X at *
          have gp9 : (wr.alloc (.cells #[.int .i64 0, .string s2] 28)).cell? ⟨b2, o2 + k, none⟩ = some (.string X) := by rw [HY.out.cell (World.block_lt_of_cell? _ _ gp)]; exact gp
          go_wp2_with fail
          generalize wr.alloc (.cells #[.int .i64 0, .string s2] 28) = w9 at *
          generalize wr.heap.size = R at *
          obtain ⟨k0, k1, _, _⟩ := blk2 HX.out
          have d8 : decide (path.length ≤ k) = false := decide_eq_false (by omega)
          have d9 : ¬ path.length ≤ k := by omega
          have KS : Hid (∀ w' : World, Below w9.heap.size w9 w' → w'.cell? ⟨R, 0, none⟩ = some (.int .i64 0) ∧ w'.cell? ⟨R, 1, none⟩ = some (.string s2) ∧ w'.cell? ⟨b2, o2 + k, none⟩ = some (.string X)) := by
            intro w' hk
            obtain ⟨a, b, _, _⟩ := blk2 (blk_call HX.out hk)
            exact ⟨a, b, (hk.cell (World.block_lt_of_cell? _ _ gp9)).trans gp9⟩
          go_region_held3 (fun w' => w'.cell? ⟨R, 0, none⟩ = some (.int .i64 0) ∧ w'.cell? ⟨R, 1, none⟩ = some (.string s2) ∧ w'.cell? ⟨b2, o2 + k, none⟩ = some (.string X))
            (first | exact KS.out _ ((Below.refl _ _).drew)) (fail)
          go_wp2_with fail
          go_roundw
          case rel => exact ⟨k + 1, ps, by omega, by go_num, HO9.out.drew, HRM.out⟩
          case measure => simp [intOf]; omega
        · have c3 : ¬ (path.length : Int) ≤ (k : Int) := by omega
          have c5 : (k : Int) < (path.length : Int) := by omega
          have c6 : ((k : Int) == (path.length : Int)) = false := by simp; omega
          obtain ⟨b2, o2, rfl, hpc⟩ := HP.out k hkl
          have G6 : Hid (w6.cell? ⟨b2, o2 + k, none⟩ = some (.string (path.getD k default))) := by show _ = _; rw [H6.out.cell (World.block_lt_of_cell? _ _ hpc)]; exact hpc
          have gp : wr.cell? ⟨b2, o2 + k, none⟩ = some (.string (path.getD k default)) := by rw [HBZ.out.cell (World.block_lt_of_cell? _ _ hpc)]; exact hpc
          have HRM := Lib.hid hR
          clear hR hpc
          generalize path.getD k default = X at *
          rcases hss with rfl | rfl
          · have gp9 : (wr.alloc (.cells #[.int .i64 1, .string s2] 28)).cell? ⟨b2, o2 + k, none⟩ = some (.string X) := by rw [HY.out.cell (World.block_lt_of_cell? _ _ gp)]; exact gp
            go_wp2_with fail
            generalize wr.alloc (.cells #[.int .i64 1, .string s2] 28) = w9 at *
            generalize wr.heap.size = R at *
            obtain ⟨k0, k1, _, _⟩ := blk2 HX.out
            have d8 : decide (path.length ≤ k) = false := decide_eq_false (by omega)
            have d9 : ¬ path.length ≤ k := by omega
            have KS : Hid (∀ w' : World, Below w9.heap.size w9 w' → w'.cell? ⟨R, 0, none⟩ = some (.int .i64 1) ∧ w'.cell? ⟨R, 1, none⟩ = some (.string s2) ∧ w'.cell? ⟨b2, o2 + k, none⟩ = some (.string X)) := by
              intro w' hk
              obtain ⟨a, b, _, _⟩ := blk2 (blk_call HX.out hk)
              exact ⟨a, b, (hk.cell (World.block_lt_of_cell? _ _ gp9)).trans gp9⟩
            go_region
            go_wp2_with fail
            have HO10 := Lib.hid HO9.out.drew
            have HX10 : Hid (w9.drew.heap[R]? = some (.cells #[.int .i64 1, .string s2] 28 (0, 0))) := HX.out
            have gp6 : w6.cell? ⟨b2, o2 + k, none⟩ = some (.string X) := G6.out
            have HG6 := Lib.hid gp6
            have KS2 : Hid (∀ w' : World, w'.heap[R]? = some (.cells #[.int .i64 1, .string s2] 28 (0, 0)) → Below w6.heap.size w6 w' → w'.cell? ⟨R, 0, none⟩ = some (.int .i64 1) ∧ w'.cell? ⟨R, 1, none⟩ = some (.string s2) ∧ w'.cell? ⟨b2, o2 + k, none⟩ = some (.string X)) := by
              intro w' h1 h2
              obtain ⟨a, b, _, _⟩ := blk2 h1
              exact ⟨a, b, (h2.cell (World.block_lt_of_cell? _ _ HG6.out)).trans HG6.out⟩
            clear gp6 HX KS HO9
            generalize w9.drew = w10 at *
            go_region_held3 (fun w' => w'.cell? ⟨R, 0, none⟩ = some (.int .i64 1) ∧ w'.cell? ⟨R, 1, none⟩ = some (.string s2) ∧ w'.cell? ⟨b2, o2 + k, none⟩ = some (.string X))
              (first | exact KS2.out _ HX10.out HO10.out.drew.2.1 | exact KS2.out _ (blk_alloc HX10.out _) (HO10.out.alloc _).drew.2.1 | exact KS2.out _ HK4.out H4.out.2.1)
              (first
                | (refine step_appP _ rfl (.tmp 85) (.tmp 93) rfl w6.heap.size w6 _ ps (by rfl) ((HO10.out.alloc _).drew) eb.out w10.heap.size 1 1 [(s2, X)] (by rfl) rfl (by omega) (heap_alloc_new _ _) ?_
                   intro v4 w4 h4 g4
                   have HK4 := Lib.hid (keep49 (HO10.out.alloc _).drew (blk_alloc HX10.out _) g4)
                   have H4 := Lib.hid h4
                   clear h4 g4))
            go_wp2_with fail
            go_roundw
            case rel => exact ⟨k + 1, ps ++ [(s2, X)], by omega, by go_num, H4.out, HRM.out⟩
            case measure => simp [intOf]; omega
          · have gp9 : (wr.alloc (.cells #[.int .i64 2, .string s2] 28)).cell? ⟨b2, o2 + k, none⟩ = some (.string X) := by rw [HY.out.cell (World.block_lt_of_cell? _ _ gp)]; exact gp
            go_wp2_with fail
            generalize wr.alloc (.cells #[.int .i64 2, .string s2] 28) = w9 at *
            generalize wr.heap.size = R at *
            obtain ⟨k0, k1, _, _⟩ := blk2 HX.out
            have d8 : decide (path.length ≤ k) = false := decide_eq_false (by omega)
            have d9 : ¬ path.length ≤ k := by omega
            have KS : Hid (∀ w' : World, Below w9.heap.size w9 w' → w'.cell? ⟨R, 0, none⟩ = some (.int .i64 2) ∧ w'.cell? ⟨R, 1, none⟩ = some (.string s2) ∧ w'.cell? ⟨b2, o2 + k, none⟩ = some (.string X)) := by
              intro w' hk
              obtain ⟨a, b, _, _⟩ := blk2 (blk_call HX.out hk)
              exact ⟨a, b, (hk.cell (World.block_lt_of_cell? _ _ gp9)).trans gp9⟩
            go_region
            go_wp2_with fail
            have HO10 := Lib.hid HO9.out.drew
            have HX10 : Hid (w9.drew.heap[R]? = some (.cells #[.int .i64 2, .string s2] 28 (0, 0))) := HX.out
            have gp6 : w6.cell? ⟨b2, o2 + k, none⟩ = some (.string X) := G6.out
            have HG6 := Lib.hid gp6
            have KS2 : Hid (∀ w' : World, w'.heap[R]? = some (.cells #[.int .i64 2, .string s2] 28 (0, 0)) → Below w6.heap.size w6 w' → w'.cell? ⟨R, 0, none⟩ = some (.int .i64 2) ∧ w'.cell? ⟨R, 1, none⟩ = some (.string s2) ∧ w'.cell? ⟨b2, o2 + k, none⟩ = some (.string X)) := by
              intro w' h1 h2
              obtain ⟨a, b, _, _⟩ := blk2 h1
              exact ⟨a, b, (h2.cell (World.block_lt_of_cell? _ _ HG6.out)).trans HG6.out⟩
            clear gp6 HX KS HO9
            generalize w9.drew = w10 at *
            go_region_held3 (fun w' => w'.cell? ⟨R, 0, none⟩ = some (.int .i64 2) ∧ w'.cell? ⟨R, 1, none⟩ = some (.string s2) ∧ w'.cell? ⟨b2, o2 + k, none⟩ = some (.string X))
              (first | exact KS2.out _ HX10.out HO10.out.drew.2.1 | exact KS2.out _ (blk_alloc HX10.out _) (HO10.out.alloc _).drew.2.1 | exact KS2.out _ HK4.out H4.out.2.1)
              (first
                | (refine step_appP _ rfl (.tmp 85) (.tmp 93) rfl w6.heap.size w6 _ ps (by rfl) ((HO10.out.alloc _).drew) eb.out w10.heap.size 1 1 [(s2, X)] (by rfl) rfl (by omega) (heap_alloc_new _ _) ?_
                   intro v4 w4 h4 g4
                   have HK4 := Lib.hid (keep49 (HO10.out.alloc _).drew (blk_alloc HX10.out _) g4)
                   have H4 := Lib.hid h4
                   clear h4 g4))
            go_wp2_with fail
            go_roundw
            case rel => exact ⟨k + 1, ps ++ [(s2, X)], by omega, by go_num, H4.out, HRM.out⟩
            case measure => simp [intOf]; omega
      · obtain rfl : k = l.length := by omega
        have hR := rm_end HM.out
        have HBr := Lib.hid (H6.out.trans (HO.out.2.1.mono H6.out.size))
        have HPS := Lib.hid HO.out.ps
        by_cases e : path.length = l.length
        · rw [if_pos e] at hR
          have HE2 : Hid (mtB l path = true ∧ mtL l path = ps) := ⟨by rw [HE.out.1, hR]; rfl, by rw [HE.out.2, hR]; rfl⟩
          have c7 : ((path.length : Int) != (l.length : Int)) = false := by simp [e]
          have c8 : (path.length != l.length) = false := by simp [e]
          clear hR
          go_wp2
          rw [HE2.out.1, HE2.out.2]
          go_ret2
          exact ⟨_, rfl, HPS.out, HBr.out⟩
        · rw [if_neg e] at hR
          have HE2 : Hid (mtB l path = false ∧ mtL l path = []) := ⟨by rw [HE.out.1, hR]; rfl, by rw [HE.out.2, hR]; rfl⟩
          have c7 : ((path.length : Int) != (l.length : Int)) = true := by simp; omega
          have c8 : (path.length != l.length) = true := by simpa using e
          clear hR
          go_wp2
          rw [HE2.out.1, HE2.out.2]
          go_ret2
          exact ⟨_, rfl, ps_nil _, HBr.out⟩
  · have hr : rgB l = false := by simpa using hr
    have HE := Lib.hid (mt_wrong (path := path) hr)
    have HG := Lib.hid h1
    have HGS := Lib.hid hgs
    obtain ⟨A, n, c, rfl⟩ := h1.shape
    obtain ⟨A2, n2, c2, rfl⟩ := h2.shape
    clear h1 h2 hs hgs
    go_enter Tryz.func73, Tryz.ntmps73
    go_wp2_with (first | (go_at_call 72; refine (rightPat17 _ _ _ HG.out HGS.out).mono ?_; rintro e w6 ⟨rfl, h6⟩; rw [hr]; have H6 := Lib.hid h6; clear h6))
    rw [HE.out.1, HE.out.2]
    go_ret2
    exact ⟨_, rfl, ps_nil _, H6.out⟩
end Go.Proofs.YthigandmemifoaaGreatDoor
