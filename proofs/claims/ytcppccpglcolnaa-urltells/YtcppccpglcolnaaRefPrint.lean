/-
  The reference's Print.
-/
import Derived.Test.YtcppccpglcolnaaRefSplit
import Derived.Test.YtcppccpglcolnaaPrn
import Derived.Test.YtcppccpglcolnaaOwnX
import Derived.Test.YtcppccpglcolnaaRef
import Derived.Deep.RegionHeld3
import Derived.Deep.DeepCutAuto
namespace Go.Proofs.Ytcppccpglcolnaa
open Go.RowKit Go.PlainAid

theorem st47 : (⟨#[47]⟩ : ByteArray) = st [47] := by decide +kernel
theorem enc_st (s : ByteArray) : encS s = st (encL (bs s)) := rfl
theorem spath_next (p : List ByteArray) (k : Nat) (h : k < p.length) : st (pathL (p.take k)) ++ ⟨#[47]⟩ ++ encS (p.getD k default) = st (pathL (p.take (k + 1))) := by
  rw [path_next p k h, bs_enc, st_append, st_append, st47]
  rfl

theorem sqry_next (p : List ByteArray) (q : List Pr) (k : Nat) (h : k < q.length) : st (headL p ++ qryL (q.take k)) ++ st [mkI k] ++ encS (q.getD k default).1 ++ ⟨#[61]⟩ ++ encS (q.getD k default).2 = st (headL p ++ qryL (q.take (k + 1))) := by
  have e61 : (⟨#[61]⟩ : ByteArray) = st [61] := by decide +kernel
  rw [qry_next q k h, bs_enc, bs_enc, e61, enc_st, enc_st, ← st_append, ← st_append, ← st_append, ← st_append]
  simp
theorem str_bne' (s : ByteArray) (h : 1 ≤ s.size) : (s.toList == []) = false := by
  have e : ¬ s = ⟨#[]⟩ := fun e => by rw [e] at h; revert h; decide
  have := bs_eq s ⟨#[]⟩
  rw [decide_eq_false e, Lib.toList_data ⟨#[]⟩] at this
  exact this

set_option maxHeartbeats 3200000 in
theorem print18 (v1 v2 : Value) (p : List ByteArray) (q : List Pr) (w : World) (hp : Ss w v1 p) (hq : Ps w v2 q) :
    Calls Try.prog 18 #[.agg #[v1, v2]] w fun e w' => e = .returned (.string (prnS p q)) ∧ Below w.heap.size w w' := by
  have HP := Lib.hid hp
  have HQ := Lib.hid hq
  obtain ⟨A, cap, rfl, _, _, hc⟩ := hp
  obtain ⟨A2, cap2, rfl, _, _, hc2⟩ := hq
  have HC := Lib.hid hc
  have HC2 := Lib.hid hc2
  clear hc hc2
  have HK := Lib.hid (blk_new w (.cells #[.slice A p.length cap, .slice A2 q.length cap2] 25 (0, 0)))
  have HB := Lib.hid ((Below.refl w.heap.size w).alloc (Nat.le_refl _) (.cells #[.slice A p.length cap, .slice A2 q.length cap2] 25 (0, 0)))
  by_cases hr : rightB p q = true
  · obtain ⟨s1, s2, s3, s4⟩ := right_small hr
    have S3 := Lib.hid s3
    have S4 := Lib.hid s4
    clear s3 s4
    have e0 : prnS p q = st (headL p ++ qryL q) := by rw [prnS, if_pos hr]; rfl
    have E0 := Lib.hid e0
    clear e0
    go_enter Try.func18, Try.ntmps18
    go_wp2_with fail
    generalize w.alloc (.cells #[.slice A p.length cap, .slice A2 q.length cap2] 25) = w5 at *
    refine (right17 _ _ _ _ _ (HP.out.call HB.out) (HQ.out.call HB.out)).mono ?_
    rintro e w6 ⟨rfl, h6⟩
    rw [hr]
    have HB6 := Lib.hid (HB.out.trans (h6.mono HB.out.size))
    have HK6 := Lib.hid (blk_call HK.out h6)
    clear h6
    have hlt6 := blk_lt HK6.out
    obtain ⟨k0, k1, k2, k3⟩ := blk2 HK6.out
    go_wp2_with fail
    go_loopw [3, 14] (fun v i wr => ∃ (k : Nat), k ≤ p.length ∧ i = .int .i64 k ∧ v = .string (st (pathL (p.take k))) ∧ Below w6.heap.size w6 wr) (fun _ i _ => p.length - (intOf i).toNat)
    case atStart => exact ⟨0, Nat.zero_le _, rfl, rfl, Below.refl _ _⟩
    case round =>
      obtain ⟨k, hk, rfl, rfl, hwr⟩ := hrel
      have HW := Lib.hid hwr
      clear hwr
      have eb : (st (pathL (p.take k))).size ≤ 193 * 8 := by
        rw [st_size]
        have := path_len (p.take k) (fun s hs => (S3.out s (List.mem_of_mem_take hs)).2)
        have e : (p.take k).length ≤ 8 := by rw [List.length_take]; omega
        omega
      by_cases hlt : k < p.length
      · obtain ⟨b, o, rfl, hcell⟩ := HC.out k hlt
        have hcell' : wr.cell? ⟨b, o + k, none⟩ = some (.string (p.getD k default)) := by
          have hl := World.block_lt_of_cell? _ _ hcell
          rw [HW.out.cell (show b < w6.heap.size by have : b < w.heap.size := hl; omega), HB6.out.cell hl]; exact hcell
        have c0 : (k : Int) < (p.length : Int) := by omega
        have hst := spath_next p k hlt
        have hsz := (S3.out _ (getD_mem p k hlt)).2
        clear hcell
        generalize p.getD k default = x at *
        have hez := encS_size x
        have HT := Lib.hid hst
        clear hst
        generalize st (pathL (p.take k)) = T at *
        have n1 : ¬ 9223372036854775807 < T.size + 1 := by omega
        have n2 : ¬ 9223372036854775807 < T.size + 1 + (encS x).size := by omega
        go_wp2_with (first | (go_at_call 30; refine (encodeR _ _ (by omega)).mono ?_; rintro e w7 ⟨rfl, h7⟩; have H7 := Lib.hid h7; clear h7))
        go_roundw
        case rel => exact ⟨k + 1, by omega, by go_num, by rw [HT.out], HW.out.trans (H7.out.mono HW.out.size)⟩
        case measure => simp [intOf]; omega
      · obtain rfl : k = p.length := by omega
        rw [List.take_length] at *
        obtain ⟨k0, k1, k2, k3⟩ := blk2 (blk_call HK6.out HW.out)
        go_upto_if 25 with fail
        go_cut [3] from 25 (fun v wz => v = .string (st (headL p)) ∧ Below w6.heap.size w6 wz)
        case first =>
          by_cases hp0 : p.length = 0
          · have hpn : p = [] := List.eq_nil_of_length_eq_zero hp0
            have c1 : ((st (pathL p)).toList == []) = true := by rw [hpn]; decide +kernel
            have c2 : (st (pathL p)).toList.isEmpty = true := by simpa using c1
            have e9 : (⟨#[47]⟩ : ByteArray) = st (headL p) := by rw [hpn]; decide +kernel
            have HE9 := Lib.hid e9
            clear e9 hpn hp0 hlt
            rw [c2]
            go_wp2_with fail
            go_meet
            exact ⟨by rw [HE9.out], HW.out⟩
          · have hpn : p ≠ [] := fun h => hp0 (by rw [h]; rfl)
            have e9 : st (pathL p) = st (headL p) := by rw [headL, if_neg hpn]
            have c1 : ((st (pathL p)).toList == []) = false := by
              have h1 : 1 ≤ (st (pathL p)).size := by
                rw [st_size]
                match p, hpn with
                | a :: r, _ => simp [pathL, segL]
              have := str_bne' (st (pathL p)) h1
              exact this
            have c2 : (st (pathL p)).toList.isEmpty = false := by simpa using c1
            have HE9 := Lib.hid e9
            clear e9 hpn hp0 hlt
            rw [c2]
            go_wp2_with fail
            go_meet
            exact ⟨by rw [HE9.out], HW.out⟩
        case rest =>
          obtain ⟨rfl, hwc⟩ := hcut
          clear HW k0 k1 k2 k3
          have HW := Lib.hid hwc
          clear hwc
          obtain ⟨k0, k1, k2, k3⟩ := blk2 (blk_call HK6.out HW.out)
          go_wp2_with fail
          have eh : (st (headL p)).size ≤ 193 * 8 := by
            rw [st_size, headL]
            split
            · simp
            · rw [st_size] at eb; exact eb
          have EH := Lib.hid eh
          clear eh
          go_loopw [3, 29] (fun v i wr => ∃ (k : Nat), k ≤ q.length ∧ i = .int .i64 k ∧ v = .string (st (headL p ++ qryL (q.take k))) ∧ Below w6.heap.size w6 wr) (fun _ i _ => q.length - (intOf i).toNat)
          case atStart => exact ⟨0, Nat.zero_le _, rfl, by simp [qryL], HW.out⟩
          case round =>
            obtain ⟨k, hk, rfl, rfl, hwr⟩ := hrel
            have HR := Lib.hid hwr
            clear hwr
            have eb : (st (headL p ++ qryL (q.take k))).size ≤ 193 * 8 + 386 * 8 := by
              have := qry_len (q.take k) (fun x hx => ⟨(S4.out x (List.mem_of_mem_take hx)).1.2, (S4.out x (List.mem_of_mem_take hx)).2⟩)
              have e : (q.take k).length ≤ 8 := by rw [List.length_take]; omega
              have h2 := EH.out
              rw [st_size] at h2
              rw [st_size, List.length_append]
              omega
            by_cases hlt : k < q.length
            · obtain ⟨b, o, rfl, hcell, hcelb⟩ := HC2.out k hlt
              have g1 : wr.cell? ⟨b, o + k * 2, none⟩ = some (.string (q.getD k default).1) := by
                have hl := World.block_lt_of_cell? _ _ hcell
                rw [HR.out.cell (show b < w6.heap.size by have : b < w.heap.size := hl; omega), HB6.out.cell hl]; exact hcell
              have g2 : wr.cell? ⟨b, o + k * 2 + 1, none⟩ = some (.string (q.getD k default).2) := by
                have hl := World.block_lt_of_cell? _ _ hcelb
                rw [HR.out.cell (show b < w6.heap.size by have : b < w.heap.size := hl; omega), HB6.out.cell hl]; exact hcelb
              have c0 : (k : Int) < (q.length : Int) := by omega
              have hst := sqry_next p q k hlt
              have hsz := S4.out _ (getD_mem q k hlt)
              clear hcell hcelb
              generalize q.getD k default = x at *
              obtain ⟨x, y⟩ := x
              simp only at g1 g2 hsz hst
              have hz1 := hsz.1.2
              have hz2 := hsz.2
              clear hsz
              have hez := encS_size x
              have hey := encS_size y
              have HX := Lib.hid (blk_new wr (.cells #[.string x, .string y] 32 (0, 0)))
              have HXb := Lib.hid (HR.out.alloc (by have := HR.out.size; omega) (.cells #[.string x, .string y] 32 (0, 0)))
              have HT := Lib.hid hst
              clear hst
              generalize st (headL p ++ qryL (q.take k)) = T at *
              have n1 : ¬ 9223372036854775807 < T.size + 1 := by omega
              have n2 : ¬ 9223372036854775807 < T.size + 1 + (encS x).size := by omega
              have n3 : ¬ 9223372036854775807 < T.size + 1 + (encS x).size + 1 := by omega
              have n4 : ¬ 9223372036854775807 < T.size + 1 + (encS x).size + 1 + (encS y).size := by omega
              have hk0 : (((k : Int) == 0) = true ∧ st [mkI k] = ⟨#[63]⟩) ∨ (((k : Int) == 0) = false ∧ st [mkI k] = ⟨#[38]⟩) := by
                by_cases e : k = 0
                · exact Or.inl ⟨by simpa using e, by rw [mkI, if_pos e]; decide +kernel⟩
                · exact Or.inr ⟨by simpa using e, by rw [mkI, if_neg e]; decide +kernel⟩
              rcases hk0 with ⟨d0, hmk⟩ | ⟨d0, hmk⟩
              all_goals
                rw [hmk] at HT
                go_wp2_with fail
                generalize wr.alloc (.cells #[.string x, .string y] 32) = w9 at *
                have KS : Hid (∀ w' : World, Below w9.heap.size w9 w' → w'.cell? ⟨wr.heap.size, 0, none⟩ = some (.string x) ∧ w'.cell? ⟨wr.heap.size, 1, none⟩ = some (.string y) ∧ Below w9.heap.size w9 w') := by
                  intro w' hk
                  obtain ⟨a, b, _, _⟩ := blk2 (blk_call HX.out hk)
                  exact ⟨a, b, hk⟩
                go_region_held3 (fun w' => w'.cell? ⟨wr.heap.size, 0, none⟩ = some (.string x) ∧ w'.cell? ⟨wr.heap.size, 1, none⟩ = some (.string y) ∧ Below w9.heap.size w9 w')
                  (first | exact KS.out _ ((Below.refl _ _).drew) | exact KS.out _ M2.out | exact KS.out _ M1.out)
                  (first
                    | (go_at_call_of 30 x; refine (encodeR _ _ (by omega)).mono ?_; rintro e w1 ⟨rfl, h⟩; have M1 := Lib.hid (((Below.refl w9.heap.size w9).drew).trans h); clear h)
                    | (go_at_call_of 30 y; refine (encodeR _ _ (by omega)).mono ?_; rintro e w2 ⟨rfl, h⟩; have M2 := Lib.hid (M1.out.trans (h.mono M1.out.size)); clear h))
                go_wp2_with fail
                go_roundw
                case rel => exact ⟨k + 1, by omega, by go_num, by rw [← HT.out], HXb.out.trans (M2.out.mono (HXb.out.size))⟩
                case measure => simp [intOf]; omega
            · obtain rfl : k = q.length := by omega
              rw [List.take_length] at *
              go_wp2
              rw [E0.out]
              go_ret
              exact ⟨rfl, HB6.out.trans (HR.out.mono (by omega))⟩
  · have hr : rightB p q = false := by simpa using hr
    have e0 : prnS p q = ⟨#[]⟩ := by rw [prnS, hr]; rfl
    have E0 := Lib.hid e0
    clear e0
    go_enter Try.func18, Try.ntmps18
    go_wp2_with fail
    generalize w.alloc (.cells #[.slice A p.length cap, .slice A2 q.length cap2] 25) = w5 at *
    refine (right17 _ _ _ _ _ (HP.out.call HB.out) (HQ.out.call HB.out)).mono ?_
    rintro e w6 ⟨rfl, h6⟩
    rw [hr]
    have HB6 := Lib.hid (HB.out.trans (h6.mono HB.out.size))
    clear h6
    go_wp2
    rw [E0.out]
    go_ret
    exact ⟨rfl, HB6.out⟩
end Go.Proofs.Ytcppccpglcolnaa
