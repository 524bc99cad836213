/-
  url.Print.
-/
import Derived.Test.YtcppccpglcolnaaOwnX
import Derived.Test.YtcppccpglcolnaaPrn
import Derived.Test.YtcppccpglcolnaaEnc
namespace Go.Proofs.Ytcppccpglcolnaa
open Go.RowKit Go.PlainAid

theorem blkn1 (w : World) (x y : Obj) : ((w.alloc x).alloc y).heap[w.heap.size + 1]? = some y := by
  have := blk_new (w.alloc x) y
  simpa using this

theorem OwnX.rebox {B : Nat} {w0 : World} {v : Value} {xs : List Int} {w : World} {b : Nat} {o : Obj} (h : OwnX B w0 v xs w b o) {b0 : Nat} {o0 : Obj} (h0 : w0.heap[b0]? = some o0) (hb : b0 < B) : OwnX B w0 v xs w b0 o0 :=
  ⟨h.1, (h.1.2.1.block b0 hb).trans h0, fun e => by have := (h.1.1.lt _ e).1; omega, h.2.2.2⟩

set_option maxHeartbeats 3200000 in
theorem print12 (v1 v2 : Value) (p : List ByteArray) (q : List Pr) (w : World) (hp : Ss w v1 p) (hq : Ps w v2 q) :
    Calls Try.prog 12 #[.agg #[v1, v2]] w fun e w' => e = .returned (.string (prnS p q)) ∧ Below w.heap.size w w' := by
  have HP := Lib.hid hp
  have HQ := Lib.hid hq
  obtain ⟨A, cap, rfl, _, _, hc⟩ := hp
  obtain ⟨A2, cap2, rfl, _, _, hc2⟩ := hq
  have HC := Lib.hid hc
  have HC2 := Lib.hid hc2
  clear hc hc2
  have HK := Lib.hid (blk_new w (.cells #[.slice A p.length cap, .slice A2 q.length cap2] 25 (0, 0)))
  have HB := Lib.hid ((Below.refl w.heap.size w).alloc (Nat.le_refl _) (.cells #[.slice A p.length cap, .slice A2 q.length cap2] 25 (0, 0)))
  by_cases hr : rightB p q = true
  · obtain ⟨s1, s2, s3, s4⟩ := right_small hr
    have S3 := Lib.hid s3
    have S4 := Lib.hid s4
    clear s3 s4
    have e0 : prnS p q = st (headL p ++ qryL q) := by rw [prnS, if_pos hr]; rfl
    have E0 := Lib.hid e0
    clear e0
    go_enter Try.func12, Try.ntmps12
    go_wp2_with fail
    generalize w.alloc (.cells #[.slice A p.length cap, .slice A2 q.length cap2] 25) = w5 at *
    refine (right16 _ _ _ _ _ (HP.out.call HB.out) (HQ.out.call HB.out)).mono ?_
    rintro e w6 ⟨rfl, h6⟩
    rw [hr]
    have HB6 := Lib.hid (HB.out.trans (h6.mono HB.out.size))
    have HK6 := Lib.hid (blk_call HK.out h6)
    clear h6
    have hlt6 := blk_lt HK6.out
    obtain ⟨k0, k1, k2, k3⟩ := blk2 HK6.out
    go_wp2_with fail
    go_loopw [3, 16] (fun v i wr => ∃ (k : Nat), k ≤ p.length ∧ i = .int .i64 k ∧ OwnX w6.heap.size w6 v (pathL (p.take k)) wr w.heap.size (.cells #[.slice A p.length cap, .slice A2 q.length cap2] 25 (0, 0))) (fun _ i _ => p.length - (intOf i).toNat)
    case atStart => exact ⟨0, Nat.zero_le _, rfl, by simpa [pathL] using emp w6.heap.size w6 w6 (Below.refl _ _) (Nat.le_refl _), blk_alloc HK6.out _, by simp [Value.ownBlock]; omega, by simp [Value.ownBlock]⟩
    case round =>
      obtain ⟨k, hk, rfl, hown⟩ := hrel
      have HO := Lib.hid hown
      clear hown
      have eb : (pathL (p.take k)).length ≤ 193 * 8 := by
        have := path_len (p.take k) (fun s hs => (S3.out s (List.mem_of_mem_take hs)).2)
        have e : (p.take k).length ≤ 8 := by rw [List.length_take]; omega
        omega
      have EB := Lib.hid eb
      clear eb
      by_cases hlt : k < p.length
      · obtain ⟨b, o, rfl, hcell⟩ := HC.out k hlt
        have hcell' : wr.cell? ⟨b, o + k, none⟩ = some (.string (p.getD k default)) := by
          have hl := World.block_lt_of_cell? _ _ hcell
          rw [HO.out.1.2.1.cell (show b < w6.heap.size by have : b < w.heap.size := hl; omega), HB6.out.cell hl]; exact hcell
        have c0 : (k : Int) < (p.length : Int) := by omega
        have HN := Lib.hid (path_next p k hlt)
        have hsz := (S3.out _ (getD_mem p k hlt)).2
        clear hcell
        generalize p.getD k default = x at *
        have hez := encS_size x
        go_wp2_with (first | (at_builtin; refine wpList_appX _ rfl (.tmp 20) (.tmp 21) rfl w6.heap.size w6 _ (pathL (p.take k)) _ _ rfl (HO.out.alloc _) ?b1 wr.heap.size 1 1 [47] rfl rfl (by omega) (heap_alloc_new _ _) ?_))
        case b1 => have := EB.out; omega
        intro v4 w4 h4
        have H4 := Lib.hid h4
        clear h4
        go_wp2_with (first | (go_at_call 26; refine (encodeP _ _ (by omega)).mono ?_; rintro e w7 ⟨rfl, h7⟩; have H7 := Lib.hid h7; clear h7) | (at_builtin; refine wpList_appTX _ rfl (.tmp 23) (.tmp 25) rfl w6.heap.size w6 _ (pathL (p.take k) ++ [47]) _ _ rfl (H4.out.call H7.out) ?b2 (encS x) rfl (by omega) ?_))
        case b2 => have := EB.out; rw [List.length_append, List.length_singleton]; omega
        intro v8 w8 h8
        have H8 := Lib.hid h8
        clear h8
        go_wp2_with fail
        go_roundw
        case rel => exact ⟨k + 1, by omega, by go_num, by rw [HN.out]; simpa using H8.out⟩
        case measure => simp [intOf]; omega
      · obtain rfl : k = p.length := by omega
        rw [List.take_length] at HO EB
        obtain ⟨k0, k1, k2, k3⟩ := blk2 HO.out.2.1
        by_cases hp0 : p.length = 0
        have hpn : p = [] := List.eq_nil_of_length_eq_zero hp0
        have c1 : ((p.length : Int) == 0) = true := by simpa using hpn
        have e9 : headL p = pathL p ++ [47] := by rw [hpn]; rfl
        have HE9 := Lib.hid e9
        clear e9 hpn hp0 hlt
        go_wp2_with (first | (at_builtin; refine wpList_appX _ rfl (.tmp 32) (.tmp 33) rfl w6.heap.size w6 _ (pathL p) _ _ rfl (HO.out.alloc _) ?b1 wr.heap.size 1 1 [47] rfl rfl (by omega) (heap_alloc_new _ _) ?_))
        case b1 => have := EB.out; omega
        intro v9 w9 h9
        rw [← HE9.out] at h9
        have H9 := Lib.hid h9
        clear h9
        obtain ⟨m0, m1, m2, m3⟩ := blk2 H9.out.2.1
        go_wp2_with fail
        rotate_left
        have c0 : ¬ (p.length : Int) = 0 := by omega
        have c1 : ((p.length : Int) == 0) = false := by simpa using c0
        have hpn : p ≠ [] := fun h => hp0 (by rw [h]; rfl)
        have e9 : headL p = pathL p := by rw [headL, if_neg hpn]
        have H9 := HO
        rw [← e9] at H9
        clear e9 hpn hp0 hlt c0 HO
        generalize u3 = v9 at *
        generalize wr = w9 at *
        go_wp2_with fail
        all_goals
          (try rw [c1])
          clear c1
          have eh : (headL p).length ≤ 193 * 8 := by
            rw [headL]
            split
            · simp
            · exact EB.out
          have EH := Lib.hid eh
          clear eh
          go_loopw [3, 6, 38] (fun v mk i wr => ∃ (k : Nat), k ≤ q.length ∧ i = .int .i64 k ∧ mk = .int .u8 (mkI k) ∧ OwnX w6.heap.size w6 v (headL p ++ qryL (q.take k)) wr w.heap.size (.cells #[.slice A p.length cap, .slice A2 q.length cap2] 25 (0, 0))) (fun _ _ i _ => q.length - (intOf i).toNat)
          case atStart => exact ⟨0, Nat.zero_le _, rfl, rfl, by simpa [qryL] using H9.out⟩
          case round =>
            obtain ⟨k, hk, rfl, rfl, hown⟩ := hrel
            have HO := Lib.hid hown
            clear hown
            have eb : (headL p ++ qryL (q.take k)).length ≤ 193 * 8 + 386 * 8 := by
              have := qry_len (q.take k) (fun x hx => ⟨(S4.out x (List.mem_of_mem_take hx)).1.2, (S4.out x (List.mem_of_mem_take hx)).2⟩)
              have e : (q.take k).length ≤ 8 := by rw [List.length_take]; omega
              have := EH.out
              rw [List.length_append]
              omega
            have EB := Lib.hid eb
            clear eb
            by_cases hlt : k < q.length
            · obtain ⟨b, o, rfl, hcell, hcelb⟩ := HC2.out k hlt
              have g1 : wr.cell? ⟨b, o + k * 2, none⟩ = some (.string (q.getD k default).1) := by
                have hl := World.block_lt_of_cell? _ _ hcell
                rw [HO.out.1.2.1.cell (show b < w6.heap.size by have : b < w.heap.size := hl; omega), HB6.out.cell hl]; exact hcell
              have g2 : wr.cell? ⟨b, o + k * 2 + 1, none⟩ = some (.string (q.getD k default).2) := by
                have hl := World.block_lt_of_cell? _ _ hcelb
                rw [HO.out.1.2.1.cell (show b < w6.heap.size by have : b < w.heap.size := hl; omega), HB6.out.cell hl]; exact hcelb
              have c0 : (k : Int) < (q.length : Int) := by omega
              have HN := Lib.hid (qry_next q k hlt)
              have hsz := S4.out _ (getD_mem q k hlt)
              clear hcell hcelb
              generalize q.getD k default = x at *
              obtain ⟨x, y⟩ := x
              simp only at g1 g2 hsz
              have hz1 := hsz.1.2
              have hz2 := hsz.2
              clear hsz
              have hez := encS_size x
              have hey := encS_size y
              have HX := Lib.hid (HO.out.1.beside HO.out.2.2.2 (.cells #[.string x, .string y] 32 (0, 0)))
              generalize hmk : mkI k = mk at *
              generalize hT : headL p ++ qryL (q.take k) = T at *
              have HT := Lib.hid hT
              have HM := Lib.hid hmk
              clear hT hmk
              go_wp2_with (first | (at_builtin; refine wpList_appX _ rfl (.tmp 42) (.tmp 44) rfl w6.heap.size w6 _ T _ _ rfl (HX.out.alloc _) ?b1 (wr.heap.size + 1) 1 1 [mk] rfl rfl (by omega) (blkn1 _ _ _) ?_))
              case b1 => have := EB.out; omega
              intro v4 w4 h4
              have H4 := Lib.hid h4
              clear h4
              obtain ⟨n0, n1, n2, n3⟩ := blk2 H4.out.2.1
              go_wp2_with (first | (go_at_call 26; refine (encodeP _ _ (by omega)).mono ?_; rintro e w7 ⟨rfl, h7⟩; have H7 := Lib.hid h7; clear h7) | (at_builtin; refine wpList_appTX _ rfl (.tmp 46) (.tmp 49) rfl w6.heap.size w6 _ (T ++ [mk]) _ _ rfl (H4.out.call H7.out) ?b2 (encS x) rfl (by omega) ?_))
              case b2 => have := EB.out; simp only [List.length_append, List.length_singleton]; omega
              intro v8 w8 h8
              obtain ⟨T8, hT8⟩ : ∃ T8, T8 = T ++ [mk] ++ bs (encS x) := ⟨_, rfl⟩
              have h8 : OwnX w6.heap.size w6 v8 T8 w8 wr.heap.size (.cells #[.string x, .string y] 32 (0, 0)) := by rw [hT8]; simpa using h8
              have e8 : T8.length ≤ 6000 := by
                have := EB.out
                have := bs_len (encS x)
                rw [hT8]
                simp only [List.length_append, List.length_singleton]
                omega
              have H8 := Lib.hid h8
              have HT8 := Lib.hid hT8
              clear h8 hT8
              go_wp2_with (first | (at_builtin; refine wpList_appX _ rfl (.tmp 51) (.tmp 52) rfl w6.heap.size w6 _ T8 _ _ rfl (H8.out.alloc _) ?b1 w8.heap.size 1 1 [61] rfl rfl (by omega) (heap_alloc_new _ _) ?_))
              case b1 => omega
              intro v10 w10 h10
              have H10 := Lib.hid h10
              clear h10
              clear n0 n1 n2 n3
              obtain ⟨n0, n1, n2, n3⟩ := blk2 H10.out.2.1
              go_wp2_with (first | (go_at_call 26; refine (encodeP _ _ (by omega)).mono ?_; rintro e w11 ⟨rfl, h11⟩; have H11 := Lib.hid h11; clear h11) | (at_builtin; refine wpList_appTX _ rfl (.tmp 54) (.tmp 57) rfl w6.heap.size w6 _ (T8 ++ [61]) _ _ rfl (H10.out.call H11.out) ?b2 (encS y) rfl (by omega) ?_))
              case b2 => rw [List.length_append, List.length_singleton]; omega
              intro v12 w12 h12
              have H12 := Lib.hid h12
              clear h12
              go_wp2_with fail
              go_roundw
              case rel => exact ⟨k + 1, by omega, by go_num, rfl, by rw [HN.out, ← List.append_assoc, ← List.append_assoc, ← List.append_assoc, ← List.append_assoc, HT.out, ← HT8.out]; exact OwnX.rebox (by simpa using H12.out) HK6.out (by omega)⟩
              case measure => simp [intOf]; omega
            · obtain rfl : k = q.length := by omega
              rw [List.take_length] at HO
              have hcv := own_text HO.out.1
              go_wp2
              rw [E0.out]
              go_ret
              exact ⟨rfl, HB6.out.trans (HO.out.1.2.1.mono (by omega))⟩
  · have hr : rightB p q = false := by simpa using hr
    have e0 : prnS p q = ⟨#[]⟩ := by rw [prnS, hr]; rfl
    have E0 := Lib.hid e0
    clear e0
    go_enter Try.func12, Try.ntmps12
    go_wp2_with fail
    generalize w.alloc (.cells #[.slice A p.length cap, .slice A2 q.length cap2] 25) = w5 at *
    refine (right16 _ _ _ _ _ (HP.out.call HB.out) (HQ.out.call HB.out)).mono ?_
    rintro e w6 ⟨rfl, h6⟩
    rw [hr]
    have HB6 := Lib.hid (HB.out.trans (h6.mono HB.out.size))
    clear h6
    go_wp2
    rw [E0.out]
    go_ret
    exact ⟨rfl, HB6.out⟩
end Go.Proofs.Ytcppccpglcolnaa
