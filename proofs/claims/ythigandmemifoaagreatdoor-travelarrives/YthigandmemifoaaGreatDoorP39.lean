/-
  Put together: UPrint, TvK, TvR.
-/
import Derived.Test.YthigandmemifoaaGreatDoorP38
import Derived.Test.YthigandmemifoaaGreatDoorP37
import Derived.Test.YthigandmemifoaaGreatDoorP12
import Derived.Test.YthigandmemifoaaGreatDoorP19
namespace Go.Proofs.YthigandmemifoaaGreatDoor
open Go.RowKit Go.PlainAid
set_option maxRecDepth 100000

theorem blkn1 (w : World) (x y : Obj) : ((w.alloc x).alloc y).heap[w.heap.size + 1]? = some y := by
  have := blk_new (w.alloc x) y
  simpa using this

theorem OwnX.rebox {B : Nat} {w0 : World} {v : Value} {xs : List Int} {w : World} {b : Nat} {o : Obj} (h : OwnX B w0 v xs w b o) {b0 : Nat} {o0 : Obj} (h0 : w0.heap[b0]? = some o0) (hb : b0 < B) : OwnX B w0 v xs w b0 o0 :=
  ⟨h.1, (h.1.2.1.block b0 hb).trans h0, fun e => by have := (h.1.1.lt _ e).1; omega, h.2.2.2⟩

set_option maxHeartbeats 3200000 in
theorem print12 (v1 v2 : Value) (p : List ByteArray) (q : List Pr) (w : World) (hp : Ss w v1 p) (hq : Ps w v2 q) :
    Calls Tryz.prog 8 #[.agg #[v1, v2]] w fun e w' => e = .returned (.string (prnS p q)) ∧ Below w.heap.size w w' := by
  have HP := Lib.hid hp
  have HQ := Lib.hid hq
  obtain ⟨A, cap, rfl, _, _, hc⟩ := hp
  obtain ⟨A2, cap2, rfl, _, _, hc2⟩ := hq
  have HC := Lib.hid hc
  have HC2 := Lib.hid hc2
  clear hc hc2
  have HK := Lib.hid (blk_new w (.cells #[.slice A p.length cap, .slice A2 q.length cap2] 33 (0, 0)))
  have HB := Lib.hid ((Below.refl w.heap.size w).alloc (Nat.le_refl _) (.cells #[.slice A p.length cap, .slice A2 q.length cap2] 33 (0, 0)))
  by_cases hr : rightB p q = true
  · obtain ⟨s1, s2, s3, s4⟩ := right_small hr
    have S3 := Lib.hid s3
    have S4 := Lib.hid s4
    clear s3 s4
    have e0 : prnS p q = st (headL p ++ qryL q) := by rw [prnS, if_pos hr]; rfl
    have E0 := Lib.hid e0
    clear e0
    go_enter Tryz.func8, Tryz.ntmps8
    go_wp2_with fail
    generalize w.alloc (.cells #[.slice A p.length cap, .slice A2 q.length cap2] 33) = w5 at *
    refine (right28 _ _ _ _ _ (HP.out.call HB.out) (HQ.out.call HB.out)).mono ?_
    rintro e w6 ⟨rfl, h6⟩
    rw [hr]
    have HB6 := Lib.hid (HB.out.trans (h6.mono HB.out.size))
    have HK6 := Lib.hid (blk_call HK.out h6)
    clear h6
    have hlt6 := blk_lt HK6.out
    obtain ⟨k0, k1, k2, k3⟩ := blk2 HK6.out
    go_wp2_with fail
    go_loopw [3, 16] (fun v i wr => ∃ (k : Nat), k ≤ p.length ∧ i = .int .i64 k ∧ OwnX w6.heap.size w6 v (pathL (p.take k)) wr w.heap.size (.cells #[.slice A p.length cap, .slice A2 q.length cap2] 33 (0, 0))) (fun _ i _ => p.length - (intOf i).toNat)
    case atStart => exact ⟨0, Nat.zero_le _, rfl, by simpa [pathL] using emp w6.heap.size w6 w6 (Below.refl _ _) (Nat.le_refl _), blk_alloc HK6.out _, by simp [Value.ownBlock]; omega, by simp [Value.ownBlock]⟩
    case round =>
      obtain ⟨k, hk, rfl, hown⟩ := hrel
      have HO := Lib.hid hown
      clear hown
      have eb : (pathL (p.take k)).length ≤ 193 * 8 := by
        have := upath_len (p.take k) (fun s hs => (S3.out s (List.mem_of_mem_take hs)).2)
        have e : (p.take k).length ≤ 8 := by rw [List.length_take]; omega
        omega
      have EB := Lib.hid eb
      clear eb
      by_cases hlt : k < p.length
      · obtain ⟨b, o, rfl, hcell⟩ := HC.out k hlt
        have hcell' : wr.cell? ⟨b, o + k, none⟩ = some (.string (p.getD k default)) := by
          have hl := World.block_lt_of_cell? _ _ hcell
          rw [HO.out.1.2.1.cell (show b < w6.heap.size by have : b < w.heap.size := hl; omega), HB6.out.cell hl]; exact hcell
        have c0 : (k : Int) < (p.length : Int) := by omega
        have HN := Lib.hid (path_next p k hlt)
        have hsz := (S3.out _ (getD_mem p k hlt)).2
        clear hcell
        generalize p.getD k default = x at *
        have hez := encS_size x
        go_wp2_with (first | (at_builtin; refine wpList_appX _ rfl (.tmp 20) (.tmp 21) rfl w6.heap.size w6 _ (pathL (p.take k)) _ _ rfl (HO.out.alloc _) ?b1 wr.heap.size 1 1 [47] rfl rfl (by omega) (heap_alloc_new _ _) ?_))
        case b1 => have := EB.out; omega
        intro v4 w4 h4
        have H4 := Lib.hid h4
        clear h4
        go_wp2_with (first | (go_at_call 24; refine (encodeP _ _ (by omega)).mono ?_; rintro e w7 ⟨rfl, h7⟩; have H7 := Lib.hid h7; clear h7) | (at_builtin; refine wpList_appTX _ rfl (.tmp 23) (.tmp 25) rfl w6.heap.size w6 _ (pathL (p.take k) ++ [47]) _ _ rfl (H4.out.call H7.out) ?b2 (encS x) rfl (by omega) ?_))
        case b2 => have := EB.out; rw [List.length_append, List.length_singleton]; omega
        intro v8 w8 h8
        have H8 := Lib.hid h8
        clear h8
        go_wp2_with fail
        go_roundw
        case rel => exact ⟨k + 1, by omega, by go_num, by rw [HN.out]; simpa using H8.out⟩
        case measure => simp [intOf]; omega
      · obtain rfl : k = p.length := by omega
        rw [List.take_length] at HO EB
        obtain ⟨k0, k1, k2, k3⟩ := blk2 HO.out.2.1
        by_cases hp0 : p.length = 0
        have hpn : p = [] := List.eq_nil_of_length_eq_zero hp0
        have c1 : ((p.length : Int) == 0) = true := by simpa using hpn
        have e9 : headL p = pathL p ++ [47] := by rw [hpn]; rfl
        have HE9 := Lib.hid e9
        clear e9 hpn hp0 hlt
        go_wp2_with (first | (at_builtin; refine wpList_appX _ rfl (.tmp 32) (.tmp 33) rfl w6.heap.size w6 _ (pathL p) _ _ rfl (HO.out.alloc _) ?b1 wr.heap.size 1 1 [47] rfl rfl (by omega) (heap_alloc_new _ _) ?_))
        case b1 => have := EB.out; omega
        intro v9 w9 h9
        rw [← HE9.out] at h9
        have H9 := Lib.hid h9
        clear h9
        obtain ⟨m0, m1, m2, m3⟩ := blk2 H9.out.2.1
        go_wp2_with fail
        rotate_left
        have c0 : ¬ (p.length : Int) = 0 := by omega
        have c1 : ((p.length : Int) == 0) = false := by simpa using c0
        have hpn : p ≠ [] := fun h => hp0 (by rw [h]; rfl)
        have e9 : headL p = pathL p := by rw [headL, if_neg hpn]
        have H9 := HO
        rw [← e9] at H9
        clear e9 hpn hp0 hlt c0 HO
        generalize u3 = v9 at *
        generalize wr = w9 at *
        go_wp2_with fail
        all_goals
          (try rw [c1])
          clear c1
          have eh : (headL p).length ≤ 193 * 8 := by
            rw [headL]
            split
            · simp
            · exact EB.out
          have EH := Lib.hid eh
          clear eh
          go_loopw [3, 6, 38] (fun v mk i wr => ∃ (k : Nat), k ≤ q.length ∧ i = .int .i64 k ∧ mk = .int .u8 (mkI k) ∧ OwnX w6.heap.size w6 v (headL p ++ qryL (q.take k)) wr w.heap.size (.cells #[.slice A p.length cap, .slice A2 q.length cap2] 33 (0, 0))) (fun _ _ i _ => q.length - (intOf i).toNat)
          case atStart => exact ⟨0, Nat.zero_le _, rfl, rfl, by simpa [qryL] using H9.out⟩
          case round =>
            obtain ⟨k, hk, rfl, rfl, hown⟩ := hrel
            have HO := Lib.hid hown
            clear hown
            have eb : (headL p ++ qryL (q.take k)).length ≤ 193 * 8 + 386 * 8 := by
              have := qry_len (q.take k) (fun x hx => ⟨(S4.out x (List.mem_of_mem_take hx)).1.2, (S4.out x (List.mem_of_mem_take hx)).2⟩)
              have e : (q.take k).length ≤ 8 := by rw [List.length_take]; omega
              have := EH.out
              rw [List.length_append]
              omega
            have EB := Lib.hid eb
            clear eb
            by_cases hlt : k < q.length
            · obtain ⟨b, o, rfl, hcell, hcelb⟩ := HC2.out k hlt
              have g1 : wr.cell? ⟨b, o + k * 2, none⟩ = some (.string (q.getD k default).1) := by
                have hl := World.block_lt_of_cell? _ _ hcell
                rw [HO.out.1.2.1.cell (show b < w6.heap.size by have : b < w.heap.size := hl; omega), HB6.out.cell hl]; exact hcell
              have g2 : wr.cell? ⟨b, o + k * 2 + 1, none⟩ = some (.string (q.getD k default).2) := by
                have hl := World.block_lt_of_cell? _ _ hcelb
                rw [HO.out.1.2.1.cell (show b < w6.heap.size by have : b < w.heap.size := hl; omega), HB6.out.cell hl]; exact hcelb
              have c0 : (k : Int) < (q.length : Int) := by omega
              have HN := Lib.hid (qry_next q k hlt)
              have hsz := S4.out _ (getD_mem q k hlt)
              clear hcell hcelb
              generalize q.getD k default = x at *
              obtain ⟨x, y⟩ := x
              simp only at g1 g2 hsz
              have hz1 := hsz.1.2
              have hz2 := hsz.2
              clear hsz
              have hez := encS_size x
              have hey := encS_size y
              have HX := Lib.hid (HO.out.1.beside HO.out.2.2.2 (.cells #[.string x, .string y] 61 (0, 0)))
              generalize hmk : mkI k = mk at *
              generalize hT : headL p ++ qryL (q.take k) = T at *
              have HT := Lib.hid hT
              have HM := Lib.hid hmk
              clear hT hmk
              go_wp2_with (first | (at_builtin; refine wpList_appX _ rfl (.tmp 42) (.tmp 44) rfl w6.heap.size w6 _ T _ _ rfl (HX.out.alloc _) ?b1 (wr.heap.size + 1) 1 1 [mk] rfl rfl (by omega) (blkn1 _ _ _) ?_))
              case b1 => have := EB.out; omega
              intro v4 w4 h4
              have H4 := Lib.hid h4
              clear h4
              obtain ⟨n0, n1, n2, n3⟩ := blk2 H4.out.2.1
              go_wp2_with (first | (go_at_call 24; refine (encodeP _ _ (by omega)).mono ?_; rintro e w7 ⟨rfl, h7⟩; have H7 := Lib.hid h7; clear h7) | (at_builtin; refine wpList_appTX _ rfl (.tmp 46) (.tmp 49) rfl w6.heap.size w6 _ (T ++ [mk]) _ _ rfl (H4.out.call H7.out) ?b2 (encS x) rfl (by omega) ?_))
              case b2 => have := EB.out; simp only [List.length_append, List.length_singleton]; omega
              intro v8 w8 h8
              obtain ⟨T8, hT8⟩ : ∃ T8, T8 = T ++ [mk] ++ bs (encS x) := ⟨_, rfl⟩
              have h8 : OwnX w6.heap.size w6 v8 T8 w8 wr.heap.size (.cells #[.string x, .string y] 61 (0, 0)) := by rw [hT8]; simpa using h8
              have e8 : T8.length ≤ 6000 := by
                have := EB.out
                have := bs_len (encS x)
                rw [hT8]
                simp only [List.length_append, List.length_singleton]
                omega
              have H8 := Lib.hid h8
              have HT8 := Lib.hid hT8
              clear h8 hT8
              go_wp2_with (first | (at_builtin; refine wpList_appX _ rfl (.tmp 51) (.tmp 52) rfl w6.heap.size w6 _ T8 _ _ rfl (H8.out.alloc _) ?b1 w8.heap.size 1 1 [61] rfl rfl (by omega) (heap_alloc_new _ _) ?_))
              case b1 => omega
              intro v10 w10 h10
              have H10 := Lib.hid h10
              clear h10
              clear n0 n1 n2 n3
              obtain ⟨n0, n1, n2, n3⟩ := blk2 H10.out.2.1
              go_wp2_with (first | (go_at_call 24; refine (encodeP _ _ (by omega)).mono ?_; rintro e w11 ⟨rfl, h11⟩; have H11 := Lib.hid h11; clear h11) | (at_builtin; refine wpList_appTX _ rfl (.tmp 54) (.tmp 57) rfl w6.heap.size w6 _ (T8 ++ [61]) _ _ rfl (H10.out.call H11.out) ?b2 (encS y) rfl (by omega) ?_))
              case b2 => rw [List.length_append, List.length_singleton]; omega
              intro v12 w12 h12
              have H12 := Lib.hid h12
              clear h12
              go_wp2_with fail
              go_roundw
              case rel => exact ⟨k + 1, by omega, by go_num, rfl, by rw [HN.out, ← List.append_assoc, ← List.append_assoc, ← List.append_assoc, ← List.append_assoc, HT.out, ← HT8.out]; exact OwnX.rebox (by simpa using H12.out) HK6.out (by omega)⟩
              case measure => simp [intOf]; omega
            · obtain rfl : k = q.length := by omega
              rw [List.take_length] at HO
              have hcv := own_text HO.out.1
              go_wp2
              rw [E0.out]
              go_ret
              exact ⟨rfl, HB6.out.trans (HO.out.1.2.1.mono (by omega))⟩
  · have hr : rightB p q = false := by simpa using hr
    have e0 : prnS p q = ⟨#[]⟩ := by rw [prnS, hr]; rfl
    have E0 := Lib.hid e0
    clear e0
    go_enter Tryz.func8, Tryz.ntmps8
    go_wp2_with fail
    generalize w.alloc (.cells #[.slice A p.length cap, .slice A2 q.length cap2] 33) = w5 at *
    refine (right28 _ _ _ _ _ (HP.out.call HB.out) (HQ.out.call HB.out)).mono ?_
    rintro e w6 ⟨rfl, h6⟩
    rw [hr]
    have HB6 := Lib.hid (HB.out.trans (h6.mono HB.out.size))
    clear h6
    go_wp2
    rw [E0.out]
    go_ret
    exact ⟨rfl, HB6.out⟩
end Go.Proofs.YthigandmemifoaaGreatDoor

namespace Go.Proofs.YthigandmemifoaaGreatDoor
open Go.RowKit Go.PlainAid
set_option maxRecDepth 100000

theorem own_one (w : World) (B : Nat) (w0 : World) (hb : Below B w0 w) (hB : B ≤ w.heap.size) (x : Int) : Own B w0 (.slice (some ⟨w.heap.size, 0, none⟩) 1 1) [x] (w.alloc (.cells #[.int .u8 x] 5 (0, 0))) :=
  ⟨⟨rfl, .inr ⟨w.heap.size, 1, #[.int .u8 x], rfl, hB, blk_new w _, Nat.le_refl _, by unfold maxLen; omega, rfl, by simp⟩⟩, hb.alloc hB _, by simp; omega⟩
set_option maxHeartbeats 3200000 in
/-- travel's Key of a place without parameters, at a place of the chain -/
theorem key9 (v : Value) (l : List Rc) (v1 v2 v3 : Value) (i h : Int) (c : List Nat) (k : Nat) (w : World) (A1 A2 : Option Addr) (n1 n2 c1 c2 : Nat) (e1 : v1 = .slice A1 n1 c1) (e2 : v2 = .slice A2 n2 c2) (hr : Rs w v l) (hc : Ni w v3 c) (hk : k < c.length) (hy : c.getD k 0 < l.length) (A4 : Option Addr) (c4 : Nat) (hn : (l.getD (c.getD k 0) default).n.size ≤ 1000) :
    Calls Tryz.prog 9 #[v, .agg #[v1, v2, .int .i64 i, v3, .slice A4 0 c4, .int .i64 h], .int .i64 (k : Int)] w fun e w' => e = .returned (.string (st (47 :: bs (l.getD (c.getD k 0) default).n))) ∧ Below w.heap.size w w' := by
  subst e1 e2
  obtain ⟨A, cap, rfl⟩ := hr.len
  obtain ⟨A3, c3, rfl, hcap, -, hcc⟩ := hc
  obtain ⟨x, o, rfl, hcell⟩ := hcc k hk
  generalize c.getD k 0 = y at *
  have B0 := Lib.hid ((Below.refl w.heap.size w).alloc (Nat.le_refl _) (.cells #[.slice A1 n1 c1, .slice A2 n2 c2, .int .i64 i, .slice (some ⟨x, o, none⟩) c.length c3, .slice A4 0 c4, .int .i64 h] 36 (0, 0)))
  have HR := Lib.hid (hr.call B0.out)
  have X0 := Lib.hid (blk_new w (.cells #[.slice A1 n1 c1, .slice A2 n2 c2, .int .i64 i, .slice (some ⟨x, o, none⟩) c.length c3, .slice A4 0 c4, .int .i64 h] 36 (0, 0)))
  have g0 : (w.alloc (.cells #[.slice A1 n1 c1, .slice A2 n2 c2, .int .i64 i, .slice (some ⟨x, o, none⟩) c.length c3, .slice A4 0 c4, .int .i64 h] 36 (0, 0))).cell? ⟨x, o + k, none⟩ = some (.int .i64 (y : Int)) := by rw [B0.out.cell (World.block_lt_of_cell? _ _ hcell)]; exact hcell
  obtain ⟨b, ob, rfl, hat, -⟩ := HR.out.at y hy
  have g1 := hat.c0
  have d0 : (k : Int) < (c.length : Int) := by omega
  have d1 : (y : Int) < (l.length : Int) := by omega
  have d2 : ¬ (c.length : Int) ≤ (k : Int) := by omega
  have d3 : ¬ (l.length : Int) ≤ (y : Int) := by omega
  clear hat hcell hcc hr
  generalize (l.getD y default).n = nm at *
  have HN := Lib.hid hn
  clear hn
  go_enter Tryz.func9, Tryz.ntmps9
  go_upto_region 1 with fail
  generalize w.alloc (.cells #[.slice A1 n1 c1, .slice A2 n2 c2, .int .i64 i, .slice (some ⟨x, o, none⟩) c.length c3, .slice A4 0 c4, .int .i64 h] 36) = w1 at *
  have f0 : w1.cell? ⟨w.heap.size, 3, none⟩ = some (.slice (some ⟨x, o, none⟩) c.length c3) := by rw [blk_cell X0.out]; rfl
  have f1 : w1.cell? ⟨w.heap.size, 4, none⟩ = some (.slice A4 0 c4) := by rw [blk_cell X0.out]; rfl
  have g1b : (w1.alloc (.cells #[.int .u8 47] 5 (0, 0))).cell? ⟨b, ob + y * 8, none⟩ = some (.string nm) := by rw [((Below.refl w1.heap.size w1).alloc (Nat.le_refl _) (.cells #[.int .u8 47] 5 (0, 0))).cell (World.block_lt_of_cell? _ _ g1)]; exact g1
  have HO := Lib.hid (own_one w1 w1.heap.size w1 (Below.refl _ _) (Nat.le_refl _) 47)
  go_wp2_with (first
    | (at_builtin; refine wpList_appT _ rfl (.tmp 34) (.tmp 39) rfl w1.heap.size w1 _ _ rfl HO.out (by simp) nm rfl (by have := HN.out; omega) ?_; intro v6 w6 h6; have H6 := Lib.hid h6; have B6 := Lib.hid h6.2.1; have f1b : w6.cell? ⟨w.heap.size, 4, none⟩ = some (.slice A4 0 c4) := (by rw [blk_cell (blk_call X0.out B6.out)]; rfl); obtain ⟨A6, n6, c6, e6⟩ := own_shape h6.1; subst e6; clear h6))
  go_loopw [8, 44] (fun s8 s44 wr => s8 = .slice A6 n6 c6 ∧ s44 = .int .i64 0 ∧ wr = w6) (fun _ _ _ => 0)
  case atStart => exact ⟨rfl, rfl, rfl⟩
  case round =>
    obtain ⟨rfl, rfl, rfl⟩ := hrel
    have HC := own_text H6.out
    go_wp2_with fail
    go_ret
    refine ⟨rfl, ?_⟩
    exact B0.out.trans (B6.out.mono B0.out.size)

set_option maxHeartbeats 3200000 in
theorem key9_no (v : Value) (l : List Rc) (w : World) (A1 A2 A3 A4 : Option Addr) (n1 n2 n3 n4 c1 c2 c3 c4 : Nat) (i h : Int) (k : Nat) (hk : n3 ≤ k) (hr : Rs w v l) :
    Calls Tryz.prog 9 #[v, .agg #[.slice A1 n1 c1, .slice A2 n2 c2, .int .i64 i, .slice A3 n3 c3, .slice A4 n4 c4, .int .i64 h], .int .i64 (k : Int)] w fun e w' => e = .returned (.string ⟨#[]⟩) ∧ Below w.heap.size w w' := by
  have B0 := Lib.hid ((Below.refl w.heap.size w).alloc (Nat.le_refl _) (.cells #[.slice A1 n1 c1, .slice A2 n2 c2, .int .i64 i, .slice A3 n3 c3, .slice A4 n4 c4, .int .i64 h] 36 (0, 0)))
  obtain ⟨A, cap, rfl⟩ := hr.len
  have d0 : (n3 : Int) ≤ (k : Int) := by omega
  clear hr
  go_enter Tryz.func9, Tryz.ntmps9
  go_wp2_with fail
  go_ret
  exact ⟨rfl, B0.out⟩
end Go.Proofs.YthigandmemifoaaGreatDoor

namespace Go.Proofs.YthigandmemifoaaGreatDoor
open Go.RowKit Go.PlainAid
set_option maxRecDepth 100000

def shT : ByteArray := ⟨#[115, 104, 111, 112]⟩
def hmT : ByteArray := ⟨#[104, 111, 109, 101]⟩
def tr1 (u : Value) : List Rc := [⟨hmT, -1, .slice none 0 0, [], 0, false, 3, 0, shT⟩, ⟨shT, -1, u, [(0, shT)], 0, false, 0, 0, ⟨#[]⟩⟩]
def tr2 (u : Value) : List Rc := [⟨hmT, -1, .slice none 0 0, [], 0, false, 3, 0, shT⟩, ⟨shT, -1, u, [(0, shT)], 0, false, 3, 0, hmT⟩]
theorem tr1_go (u : Value) : goS (tr1 u) 0 (fun _ => false) ⟨#[47]⟩ = (0, ⟨[shT], [], 1, [1], [], 1⟩) := by kernel_rfl
theorem tr2_go (u : Value) : goS (tr2 u) 0 (fun _ => false) ⟨#[47]⟩ = (4, zPl) := by kernel_rfl
theorem tr_prn : prnS [shT] [] = ⟨#[47, 115, 104, 111, 112]⟩ := by decide +kernel
theorem tr_key : st (47 :: bs shT) = ⟨#[47, 115, 104, 111, 112]⟩ := by decide +kernel

theorem gs_one {w : World} {b : Nat} {k : Int} {t : ByteArray} (h : w.heap[b]? = some (.cells #[.int .i64 k, .string t] 28 (0, 0))) : Gs w (.slice (some ⟨b, 0, none⟩) 1 1) [(k, t)] := gs_new (l := [(k, t)]) h rfl
theorem gt_one {w : World} {b : Nat} {k : Int} {t : ByteArray} (h : w.heap[b]? = some (.cells #[.int .i64 k, .string t] 28 (0, 0))) : Gt w (.slice (some ⟨b, 0, none⟩) 1 1) [(k, t)] :=
  ⟨gs_one h, fun b' o n c e => by cases e; exact ⟨_, _, h⟩⟩
theorem rs_new {w : World} {b : Nat} {l : List Rc} {n : Nat} (h : w.heap[b]? = some (.cells (l.flatMap rcC).toArray 26 (0, 0))) (hn : l.length = n) (hg : ∀ r ∈ l, Gs w r.u r.l) : Rs w (.slice (some ⟨b, 0, none⟩) n n) l := by
  subst hn
  refine ⟨_, _, rfl, Nat.le_refl _, (fun h => by cases h), fun i hi => ⟨b, 0, rfl, RcAt.of fun j hj => ?_⟩, hg⟩
  rw [blk_cell h]
  have := rcC_at l i j hi hj
  simpa using this
/-- the second of two records of the call's own: its rule is stored anew -/
theorem rule_set {B : Nat} {w0 : World} {v : Value} {w : World} {r0 r1 : Rc} (h : OwnR B w0 v [r0, r1] w) : ∃ g cap, v = .slice (some ⟨g, 0, none⟩) 2 cap ∧ B ≤ g ∧ g < w.heap.size ∧ (w.cell? ⟨g, 13, none⟩ = some (.int .i64 r1.rk) ∧ w.cell? ⟨g, 14, none⟩ = some (.int .i64 r1.rf) ∧ w.cell? ⟨g, 15, none⟩ = some (.string r1.rt)) ∧ (w.frozen? ⟨g, 13, none⟩ = false ∧ w.frozen? ⟨g, 14, none⟩ = false ∧ w.frozen? ⟨g, 15, none⟩ = false) ∧
    ∀ k f t, Rs (((w.setCell ⟨g, 13, none⟩ (.int .i64 k)).setCell ⟨g, 14, none⟩ (.int .i64 f)).setCell ⟨g, 15, none⟩ (.string t)) v [r0, { r1 with rk := k, rf := f, rt := t }] := by
  have hrs := h.rs
  obtain ⟨⟨hl, ⟨rfl, h0⟩ | ⟨g, cap, cur, rfl, hB, hg, h4, h5, h6, h7⟩⟩, _, _, hgt⟩ := h
  · cases h0
  · have hcell : ∀ (j : Nat) (u : Value), (rcC r0 ++ rcC r1)[j]? = some u → cur[j]? = some u := by
      intro j u hu
      have hj : j < 16 := (List.getElem?_eq_some_iff.1 hu).1
      have e1 : (cur.toList.take 16)[j]? = some u := by
        have : cur.toList.take 16 = rcC r0 ++ rcC r1 := by simpa [rcC] using h7
        rw [this]; exact hu
      rw [List.getElem?_take_of_lt hj] at e1
      simpa using e1
    have hw := blk_setCell (blk_setCell (blk_setCell hg 13 (.int .i64 0)) 14 (.int .i64 0)) 15 (.int .i64 0)
    refine ⟨g, cap, rfl, hB, blk_lt hg, ⟨?_, ?_, ?_⟩, ⟨blk_frozen hg _, blk_frozen hg _, blk_frozen hg _⟩, ?_⟩
    · rw [blk_cell hg]; exact hcell 13 _ rfl
    · rw [blk_cell hg]; exact hcell 14 _ rfl
    · rw [blk_cell hg]; exact hcell 15 _ rfl
    intro k f t
    have hk := blk_setCell (blk_setCell (blk_setCell hg 13 (.int .i64 k)) 14 (.int .i64 f)) 15 (.string t)
    have hsz : 16 ≤ cur.size := by
      have := hcell 15 _ rfl
      have := (Array.getElem?_eq_some_iff.1 this).1
      omega
    have hK : Kp (fun b => b = g) w (((w.setCell ⟨g, 13, none⟩ (.int .i64 k)).setCell ⟨g, 14, none⟩ (.int .i64 f)).setCell ⟨g, 15, none⟩ (.string t)) :=
      (((Kp.refl (fun b => b = g) w).setCell (p := ⟨g, 13, none⟩) (fun _ => rfl) _).setCell (p := ⟨g, 14, none⟩) (fun _ => rfl) _).setCell (p := ⟨g, 15, none⟩) (fun _ => rfl) _
    have gkp : ∀ v l, Gt w v l → Gs (((w.setCell ⟨g, 13, none⟩ (.int .i64 k)).setCell ⟨g, 14, none⟩ (.int .i64 f)).setCell ⟨g, 15, none⟩ (.string t)) v l := by
      intro v l hv
      obtain ⟨A, c, e, h2, h3, h4⟩ := hv.1
      refine ⟨A, c, e, h2, h3, fun i hi => ?_⟩
      obtain ⟨b, o, ha, hc, hd⟩ := h4 i hi
      obtain ⟨cur', fz, hb⟩ := hv.2 b o _ _ (by rw [e, ha])
      have hne : b ≠ g := by
        intro e2
        subst e2
        rw [hb] at hg
        cases hg
      exact ⟨b, o, ha, by rw [hK.cell (World.block_lt_of_cell? _ _ hc) hne]; exact hc, by rw [hK.cell (World.block_lt_of_cell? _ _ hd) hne]; exact hd⟩
    refine ⟨_, cap, rfl, h4, (fun e => by cases e), fun i hi => ⟨g, 0, rfl, RcAt.of fun j hj => ?_⟩, fun r hr => ?_⟩
    · rw [blk_cell hk, Nat.zero_add]
      simp only [List.length_cons, List.length_nil] at hi
      rcases (show i = 0 ∨ i = 1 by omega) with rfl | rfl
      · rw [Array.getElem?_setIfInBounds_ne (by omega), Array.getElem?_setIfInBounds_ne (by omega), Array.getElem?_setIfInBounds_ne (by omega), Nat.zero_mul, Nat.zero_add]
        have hj8 : j < (rcC r0).length := hj
        have e : (rcC r0 ++ rcC r1)[j]? = some (rcC r0)[j] := by rw [List.getElem?_append_left hj8, List.getElem?_eq_getElem hj8]
        rw [hcell j _ e]
        exact (List.getElem?_eq_getElem hj8).symm
      · have e8 : ∀ (j : Nat) (u : Value), (rcC r1)[j]? = some u → cur[8 + j]? = some u := by
          intro j u hu
          refine hcell (8 + j) u ?_
          rw [List.getElem?_append_right (by simp [rcC])]
          simpa [rcC] using hu
        rcases (show j = 0 ∨ j = 1 ∨ j = 2 ∨ j = 3 ∨ j = 4 ∨ j = 5 ∨ j = 6 ∨ j = 7 by omega) with rfl | rfl | rfl | rfl | rfl | rfl | rfl | rfl
        · rw [Array.getElem?_setIfInBounds_ne (by omega), Array.getElem?_setIfInBounds_ne (by omega), Array.getElem?_setIfInBounds_ne (by omega)]; exact e8 0 _ rfl
        · rw [Array.getElem?_setIfInBounds_ne (by omega), Array.getElem?_setIfInBounds_ne (by omega), Array.getElem?_setIfInBounds_ne (by omega)]; exact e8 1 _ rfl
        · rw [Array.getElem?_setIfInBounds_ne (by omega), Array.getElem?_setIfInBounds_ne (by omega), Array.getElem?_setIfInBounds_ne (by omega)]; exact e8 2 _ rfl
        · rw [Array.getElem?_setIfInBounds_ne (by omega), Array.getElem?_setIfInBounds_ne (by omega), Array.getElem?_setIfInBounds_ne (by omega)]; exact e8 3 _ rfl
        · rw [Array.getElem?_setIfInBounds_ne (by omega), Array.getElem?_setIfInBounds_ne (by omega), Array.getElem?_setIfInBounds_ne (by omega)]; exact e8 4 _ rfl
        · rw [Array.getElem?_setIfInBounds_ne (by omega), Array.getElem?_setIfInBounds_ne (by omega), Array.getElem?_setIfInBounds_self_of_lt (by simpa using by omega)]; rfl
        · rw [Array.getElem?_setIfInBounds_ne (by omega), Array.getElem?_setIfInBounds_self_of_lt (by simpa using by omega)]; rfl
        · rw [Array.getElem?_setIfInBounds_self_of_lt (by simpa using by omega)]; rfl
    · simp only [List.mem_cons, List.not_mem_nil, or_false] at hr
      rcases hr with rfl | rfl
      · exact gkp _ _ (hgt r (by simp))
      · exact gkp _ _ (hgt r1 (by simp))
end Go.Proofs.YthigandmemifoaaGreatDoor
