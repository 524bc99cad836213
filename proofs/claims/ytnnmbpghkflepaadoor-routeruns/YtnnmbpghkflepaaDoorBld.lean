/-
  pattern.Build.
-/
import Derived.Test.YtnnmbpghkflepaaDoorGive
import Derived.Test.YtnnmbpghkflepaaDoorSet
import Derived.Test.YtnnmbpghkflepaaDoorMtc
import Derived.Test.YtnnmbpghkflepaaDoorRight
import Derived.Test.YtnnmbpghkflepaaDoorApp
namespace Go.Proofs.YtnnmbpghkflepaaDoor
open Go.RowKit Go.PlainAid
set_option maxRecDepth 100000

theorem bd_wrong {l : List Sg} {ps : List Pr} (hr : rgB l = false) : bdB l ps = false ∧ bdL l ps = [] := by
  rw [bdB, bdL, bdO, if_neg (by rw [hr]; decide)]
  exact ⟨rfl, rfl⟩
theorem bd_no {l : List Sg} {ps : List Pr} (hr : rgB l = true) (h : bdR l ps = none) : bdB l ps = false ∧ bdL l ps = [] := by
  rw [bdB, bdL, bdO, if_pos hr, h]
  exact ⟨rfl, rfl⟩
theorem bd_yes {l : List Sg} {ps : List Pr} {path : List ByteArray} (hr : rgB l = true) (h : bdR l ps = some path) (hb : (rightB path [] && (mtB l path && smB (mtL l path) ps)) = true) : bdB l ps = true ∧ bdL l ps = path := by
  rw [bdB, bdL, bdO, if_pos hr, h]
  simp only [hb]
  exact ⟨rfl, rfl⟩
theorem bd_not {l : List Sg} {ps : List Pr} {path : List ByteArray} (hr : rgB l = true) (h : bdR l ps = some path) (hb : (rightB path [] && (mtB l path && smB (mtL l path) ps)) = false) : bdB l ps = false ∧ bdL l ps = [] := by
  rw [bdB, bdL, bdO, if_pos hr, h]
  simp only [hb]
  exact ⟨rfl, rfl⟩
theorem gv_some {g : Sg} {ps : List Pr} (h : gvB g ps = true) : gvO g ps = some (gvL g ps) := by
  unfold gvB at h
  obtain ⟨n, hn⟩ := Option.isSome_iff_exists.1 h
  unfold gvL
  rw [hn]; rfl
theorem gv_none {g : Sg} {ps : List Pr} (h : gvB g ps = false) : gvO g ps = none := by
  unfold gvB at h
  simpa using h
theorem sp_len (v : ByteArray) : (spL v).length ≤ 9 := by
  unfold spL spO
  have := spN_len v
  split
  · simp
  · split
    · simpa using this
    · simp
theorem gv_len (g : Sg) (ps : List Pr) : (gvL g ps).length ≤ 9 := by
  obtain ⟨g1, g2⟩ := g
  have := sp_len (gtS ps g2)
  rcases gv_cases g1 g2 ps with ⟨_, _, e⟩ | ⟨_, _, _, _, e⟩ | ⟨_, _, _, _, e⟩ | ⟨_, _, _, _, e⟩ | ⟨_, _, _, _, e⟩ <;> rw [e] <;> simp <;> omega
/-- what Build has come to -/
def BdMid (l : List Sg) (ps : List Pr) (k : Nat) (xs : List ByteArray) : Prop :=
  bdR l ps = (bdR (l.drop k) ps).map (xs ++ ·) ∧ xs.length ≤ 9 * k
theorem bmid_next {l : List Sg} {ps : List Pr} {k : Nat} {xs ys : List ByteArray} (h : BdMid l ps k xs) (ht : bdR (l.drop k) ps = (bdR (l.drop (k + 1)) ps).map (ys ++ ·)) (hy : ys.length ≤ 9) : BdMid l ps (k + 1) (xs ++ ys) := by
  obtain ⟨h1, h2⟩ := h
  refine ⟨?_, by rw [List.length_append]; omega⟩
  rw [h1, ht, Option.map_map]
  congr 1
  funext z
  simp

set_option maxHeartbeats 3200000 in
set_option maxRecDepth 100000 in
theorem build9 (v1 v2 : Value) (l : List Sg) (q : List Pr) (w : World) (h1 : Gs w v1 l) (h2 : Ps w v2 q) (hz : q.length ≤ 1000000000) (hs : ∀ p ∈ q, p.2.size ≤ 100000000) :
    Calls Tryd.prog 16 #[v1, v2] w fun e w' => ∃ v, e = .returned (.tuple #[v, .bool (bdB l q)]) ∧ Ss w' v (bdL l q) ∧ Below w.heap.size w w' := by
  by_cases hr : rgB l = true
  · have HG := Lib.hid h1
    have HP := Lib.hid h2
    have hl8 := rg_len hr
    have HNO := Lib.hid (@bd_no l q hr)
    have HYES := Lib.hid (fun path => @bd_yes l q path hr)
    have HNOT := Lib.hid (fun path => @bd_not l q path hr)
    have HZ := Lib.hid hs
    obtain ⟨A, cap, rfl, hcap, _, hc⟩ := h1
    have HC := Lib.hid hc
    obtain ⟨A2, n2, c2, rfl⟩ := h2.shape
    clear hc h2 hs
    go_enter Tryd.func16, Tryd.ntmps16
    go_wp2_with (first | (go_at_call 18; refine (right16 _ _ _ HG.out).mono ?_; rintro e w6 ⟨rfl, h6⟩; rw [hr]; have H6 := Lib.hid h6; clear h6))
    have HE := Lib.hid (empS w6.heap.size w6 w6 (Below.refl _ _) (Nat.le_refl _))
    go_loopw [6, 19] (fun p i wr => ∃ (k : Nat) (xs : List ByteArray), k ≤ l.length ∧ i = .int .i64 k ∧ OwnS w6.heap.size w6 p xs wr ∧ BdMid l q k xs) (fun _ i _ => l.length - (intOf i).toNat)
    case atStart => exact ⟨0, [], Nat.zero_le _, rfl, HE.out, by simp, by simp⟩
    case round =>
      obtain ⟨k, xs, hk, rfl, hown, hmid⟩ := hrel
      have HO := Lib.hid hown
      have HM := Lib.hid hmid
      clear hown hmid
      have HBr := Lib.hid (H6.out.trans (HO.out.2.1.mono H6.out.size))
      by_cases hlt : k < l.length
      · have d0 : (k : Int) < (l.length : Int) := by omega
        obtain ⟨x, o, rfl, hcell, hcelb⟩ := HC.out k hlt
        have g1 : wr.cell? ⟨x, o + k * 2, none⟩ = some (.int .i64 (l.getD k default).1) := by rw [HBr.out.cell (World.block_lt_of_cell? _ _ hcell)]; exact hcell
        have g3 : wr.cell? ⟨x, o + k * 2 + 1, none⟩ = some (.string (l.getD k default).2) := by rw [HBr.out.cell (World.block_lt_of_cell? _ _ hcelb)]; exact hcelb
        have HN := Lib.hid (@bd_none l k q hlt)
        have HT := Lib.hid (fun x => @bd_step l k q hlt x)
        clear hcell hcelb
        generalize l.getD k default = s at *
        obtain ⟨s1, s2⟩ := s
        simp only at g1 g3
        have HY := Lib.hid ((Below.refl wr.heap.size wr).alloc (Nat.le_refl _) (.cells #[.int .i64 s1, .string s2] 41 (0, 0)))
        have HO9 := Lib.hid (HO.out.alloc (.cells #[.int .i64 s1, .string s2] 41 (0, 0)))
        have HP9 := Lib.hid ((HP.out.call HBr.out).call HY.out)
        have HB9 := Lib.hid (HBr.out.alloc HBr.out.size (.cells #[.int .i64 s1, .string s2] 41 (0, 0)))
        go_wp2_with fail
        generalize wr.alloc (.cells #[.int .i64 s1, .string s2] 41) = w9 at *
        by_cases ht : gvB (s1, s2) q = true
        · have HT1 := Lib.hid (HT.out _ (gv_some ht))
          have hy9 := gv_len (s1, s2) q
          obtain ⟨ys, hys⟩ : ∃ ys, gvL (s1, s2) q = ys := ⟨_, rfl⟩
          rw [hys] at HT1 hy9
          refine (give27 _ _ _ q _ HP9.out hz HZ.out).mono ?_
          rintro e w1 ⟨v3, rfl, h1, h2⟩
          rw [ht]
          rw [hys] at h1
          have HSy := Lib.hid h1
          have HO1 := Lib.hid (HO9.out.call h2)
          obtain ⟨A3, n3, c3, rfl⟩ := h1.shape
          have eb : Hid (xs.length ≤ 1000000000) := by have := HM.out.2; show _ ≤ _; omega
          clear h1 h2
          go_wp2_with (first | (at_builtin; refine wpList_appSs _ rfl (.tmp 31) (.tmp 32) rfl w6.heap.size w6 _ xs rfl HO1.out ?b1 A3 n3 c3 ys rfl HSy.out ?b2 ?_))
          case b1 => exact eb.out
          case b2 => omega
          intro v4 w4 h4 _
          have H4 := Lib.hid h4
          clear h4
          go_wp2_with fail
          go_roundw
          case rel => exact ⟨k + 1, xs ++ ys, by omega, by go_num, H4.out, bmid_next HM.out HT1.out hy9⟩
          case measure => simp [intOf]; omega
        · have ht : gvB (s1, s2) q = false := by simpa using ht
          have HE2 := Lib.hid (HNO.out (by rw [HM.out.1, HN.out (gv_none ht)]; rfl))
          refine (give27 _ _ _ q _ HP9.out hz HZ.out).mono ?_
          rintro e w1 ⟨v3, rfl, h1, h2⟩
          rw [ht]
          obtain ⟨A3, n3, c3, rfl⟩ := h1.shape
          have HB1 := Lib.hid (HB9.out.trans (h2.mono HB9.out.size))
          clear h1 h2
          go_wp2
          rw [HE2.out.1, HE2.out.2]
          go_ret2
          exact ⟨_, rfl, ss_nil _, HB1.out⟩
      · obtain rfl : k = l.length := by omega
        have hR : bdR l q = some xs := by
          rw [HM.out.1, List.drop_length, bdR]
          simp
        have HY1 := Lib.hid (HYES.out xs hR)
        have HN1 := Lib.hid (HNOT.out xs hR)
        have HSx := Lib.hid HO.out.ss
        obtain ⟨A8, n8, c8, hv8⟩ := HO.out.ss.shape
        subst hv8
        clear hR
        by_cases hri : rightB xs [] = true
        · have hx8 : xs.length ≤ 8 := by
            rw [rightB, Bool.and_eq_true] at hri
            exact (of_decide_eq_true hri.1).1
          have HXZ : Hid (∀ s ∈ xs, s.size ≤ 100000000) := by
            intro s hs
            rw [rightB, Bool.and_eq_true, Bool.and_eq_true, List.all_eq_true] at hri
            have := of_decide_eq_true (hri.2.1 s hs)
            omega
          go_wp2_with (first | (go_at_call 28; refine (right28 _ _ _ _ _ HSx.out (ps_nil _)).mono ?_; rintro e w2 ⟨rfl, h2⟩; rw [hri]; have H2 := Lib.hid h2; clear h2))
          refine (match8 _ _ l xs _ ((HG.out.call HBr.out).call H2.out) (HSx.out.call H2.out) HXZ.out (by omega)).mono ?_
          rintro e w3 ⟨v3, rfl, h3, h4⟩
          have H3 := Lib.hid h3
          have H4 := Lib.hid h4
          obtain ⟨A3, n3, c3, rfl⟩ := h3.shape
          clear h3 h4
          have HB3 := Lib.hid ((HBr.out.trans (H2.out.mono HBr.out.size)).trans (H4.out.mono (Nat.le_trans HBr.out.size H2.out.size)))
          by_cases hmb : mtB l xs = true
          · rw [hmb]
            have HP3 := Lib.hid (HP.out.call HB3.out)
            go_wp2_with fail
            refine (sameSet29 _ _ (mtL l xs) q _ H3.out HP3.out hz).mono ?_
            rintro e w5 ⟨rfl, h5⟩
            have HB5 := Lib.hid (HB3.out.trans (h5.mono HB3.out.size))
            have HS5 := Lib.hid (((HSx.out.call H2.out).call H4.out).call h5)
            clear h5
            by_cases hsm : smB (mtL l xs) q = true
            · rw [hsm]
              have HE2 := Lib.hid (HY1.out (by rw [hri, hmb, hsm]; rfl))
              go_wp2
              rw [HE2.out.1, HE2.out.2]
              go_ret2
              exact ⟨_, rfl, HS5.out, HB5.out⟩
            · have hsm : smB (mtL l xs) q = false := by simpa using hsm
              rw [hsm]
              have HE2 := Lib.hid (HN1.out (by rw [hri, hmb, hsm]; rfl))
              go_wp2
              rw [HE2.out.1, HE2.out.2]
              go_ret2
              exact ⟨_, rfl, ss_nil _, HB5.out⟩
          · have hmb : mtB l xs = false := by simpa using hmb
            rw [hmb]
            have HE2 := Lib.hid (HN1.out (by rw [hri, hmb]; rfl))
            go_wp2
            rw [HE2.out.1, HE2.out.2]
            go_ret2
            exact ⟨_, rfl, ss_nil _, HB3.out⟩
        · have hri : rightB xs [] = false := by simpa using hri
          have HE2 := Lib.hid (HN1.out (by rw [hri]; rfl))
          go_wp2_with (first | (go_at_call 28; refine (right28 _ _ _ _ _ HSx.out (ps_nil _)).mono ?_; rintro e w2 ⟨rfl, h2⟩; rw [hri]; have H2 := Lib.hid h2; clear h2))
          rw [HE2.out.1, HE2.out.2]
          go_ret2
          exact ⟨_, rfl, ss_nil _, HBr.out.trans (H2.out.mono HBr.out.size)⟩
  · have hr : rgB l = false := by simpa using hr
    have HG := Lib.hid h1
    have HE := Lib.hid (bd_wrong (ps := q) hr)
    obtain ⟨A, n, c, rfl⟩ := h1.shape
    obtain ⟨A2, n2, c2, rfl⟩ := h2.shape
    clear h1 h2
    go_enter Tryd.func16, Tryd.ntmps16
    go_wp2_with (first | (go_at_call 18; refine (right16 _ _ _ HG.out).mono ?_; rintro e w6 ⟨rfl, h6⟩; rw [hr]; have H6 := Lib.hid h6; clear h6))
    rw [HE.out.1, HE.out.2]
    go_ret2
    exact ⟨_, rfl, ss_nil _, H6.out⟩
end Go.Proofs.YtnnmbpghkflepaaDoor
