/-
  Put together: RefBuild.
-/
import Derived.Test.YthigandmemifoaaGreatDoorP28
import Derived.Test.YthigandmemifoaaGreatDoorP15
import Derived.Test.YthigandmemifoaaGreatDoorP29
import Derived.Test.YthigandmemifoaaGreatDoorP24
import Derived.Test.YthigandmemifoaaGreatDoorP14
namespace Go.Proofs.YthigandmemifoaaGreatDoor
open Go.RowKit Go.PlainAid
set_option maxRecDepth 100000

def RbMid (l : List Sg) (ps : List Pr) (k : Nat) (xs : List ByteArray) (n : Nat) : Prop :=
  rbR l ps = (rbR (l.drop k) ps).map (fun y => (xs ++ y.1, n + y.2)) ∧ xs.length ≤ k * 100000001 ∧ n ≤ k
theorem rb_step {l : List Sg} {ps : List Pr} {k : Nat} {xs : List ByteArray} {n : Nat} (h : RbMid l ps k xs n) (hk : k < l.length) {s1 : Int} {s2 : ByteArray} (hg : l.getD k default = (s1, s2)) {ys : List ByteArray} {m : Nat}
    (hr : rgO (s1, s2) ps = some (ys, m)) (hy : ys.length ≤ 100000001) (hm : m ≤ 1) : RbMid l ps (k + 1) (xs ++ ys) (n + m) := by
  obtain ⟨h1, h2, h3⟩ := h
  refine ⟨?_, by rw [List.length_append]; omega, by omega⟩
  rw [h1, drop_get l k hk, hg, rbR, hr]
  simp only [Option.map_map]
  congr 1
  funext y
  simp [Nat.add_assoc]
theorem rb_stop {l : List Sg} {ps : List Pr} {k : Nat} {xs : List ByteArray} {n : Nat} (h : RbMid l ps k xs n) (hk : k < l.length) {s1 : Int} {s2 : ByteArray} (hg : l.getD k default = (s1, s2))
    (hr : rgO (s1, s2) ps = none) : bdB l ps = false ∧ bdL l ps = [] := by
  have e : rbR l ps = none := by rw [h.1, drop_get l k hk, hg, rbR, hr]; rfl
  have : bdO l ps = none := by
    rw [← rb_is, rbO, e]
    split <;> rfl
  rw [bdB, bdL, this]
  exact ⟨rfl, rfl⟩
theorem rb_end {l : List Sg} {ps : List Pr} {xs : List ByteArray} {n : Nat} (hr : rgB l = true) (h : RbMid l ps l.length xs n) :
    (n = ps.length → rightB xs [] = true → bdB l ps = true ∧ bdL l ps = xs) ∧ (¬ (n = ps.length ∧ rightB xs [] = true) → bdB l ps = false ∧ bdL l ps = []) := by
  have e : rbR l ps = some (xs, n) := by rw [h.1, List.drop_length, rbR]; simp
  have e2 : bdO l ps = if n = ps.length ∧ rightB xs [] = true then some xs else none := by
    rw [← rb_is, rbO, if_pos hr, e]
  constructor
  · intro h1 h2
    rw [if_pos ⟨h1, h2⟩] at e2
    rw [bdB, bdL, e2]
    exact ⟨rfl, rfl⟩
  · intro h1
    rw [if_neg h1] at e2
    rw [bdB, bdL, e2]
    exact ⟨rfl, rfl⟩
theorem gt_F {q : List Pr} {n : ByteArray} : (gtB q n = true → gtF q n = some (gtS q n)) ∧ (gtB q n = false → gtF q n = none) := by
  unfold gtB gtS
  cases gtF q n <;> simp
theorem empty_of {v : ByteArray} (h : v.size = 0) : v = ⟨#[]⟩ := by
  apply bs_inj
  have : bs v = [] := List.eq_nil_of_length_eq_zero (by rw [bs_len]; exact h)
  rw [this]
  rfl
theorem ne_empty (s : ByteArray) (h : 1 ≤ s.size) : (s.toList == []) = false := by
  have e : ¬ s = ⟨#[]⟩ := fun e => by rw [e] at h; revert h; decide
  have := bs_eq s ⟨#[]⟩
  rw [decide_eq_false e, Lib.toList_data ⟨#[]⟩] at this
  exact this
theorem is_empty (s : ByteArray) (h : s.size = 0) : (s.toList == []) = true := by
  have := bs_eq s ⟨#[]⟩
  rw [decide_eq_true (empty_of h), Lib.toList_data ⟨#[]⟩] at this
  exact this
theorem Ss.kept {w w' : World} {b o n c : Nat} {l : List ByteArray} {row : Option Nat} (h : Ss w (.slice (some ⟨b, o, none⟩) n c) l) (hg : w.grownBy w' row) (hne : some b ≠ row) : Ss w' (.slice (some ⟨b, o, none⟩) n c) l := by
  obtain ⟨A, cap, h1, h2, h3, h4⟩ := h
  refine ⟨A, cap, h1, h2, h3, fun i hi => ?_⟩
  obtain ⟨b', o', ha, hc⟩ := h4 i hi
  refine ⟨b', o', ha, hg.cell hc ?_⟩
  subst ha
  simp only [Value.slice.injEq, Option.some.injEq, Addr.mk.injEq] at h1
  have : b' = b := h1.1.1.symm
  rw [this]
  exact hne

theorem rg_ways (s1 : Int) (s2 : ByteArray) (q : List Pr) (hk : s1 = 0 ∨ s1 = 1 ∨ s1 = 2 ∨ s1 = 3) :
    (s1 = 0 ∧ rgO (s1, s2) q = some ([s2], 0)) ∨ (s1 = 2 ∧ gtB q s2 = false ∧ rgO (s1, s2) q = some ([], 0)) ∨ ((s1 = 1 ∨ s1 = 3) ∧ gtB q s2 = false ∧ rgO (s1, s2) q = none)
    ∨ ((s1 = 1 ∨ s1 = 2) ∧ gtB q s2 = true ∧ (gtS q s2).size = 0 ∧ rgO (s1, s2) q = none) ∨ ((s1 = 1 ∨ s1 = 2) ∧ gtB q s2 = true ∧ 1 ≤ (gtS q s2).size ∧ rgO (s1, s2) q = some ([gtS q s2], 1))
    ∨ (s1 = 3 ∧ gtB q s2 = true ∧ (gtS q s2).size = 0 ∧ rgO (s1, s2) q = some ([], 1)) ∨ (s1 = 3 ∧ gtB q s2 = true ∧ 1 ≤ (gtS q s2).size ∧ rgO (s1, s2) q = if (spl 47 (gtS q s2)).all rpB then some ((spl 47 (gtS q s2)).map decS, 1) else none) := by
  by_cases h0 : s1 = 0
  · subst h0
    exact Or.inl ⟨rfl, by rw [rgO, if_pos rfl]⟩
  · cases hb : gtB q s2 with
    | false =>
      have hf := gt_F.2 hb
      have e : rgO (s1, s2) q = if s1 = 2 then some ([], 0) else none := by rw [rgO, if_neg h0, hf]
      by_cases h2 : s1 = 2
      · rw [if_pos h2] at e
        exact Or.inr (Or.inl ⟨h2, rfl, e⟩)
      · rw [if_neg h2] at e
        exact Or.inr (Or.inr (Or.inl ⟨by omega, rfl, e⟩))
    | true =>
      have hf := gt_F.1 hb
      have e : rgO (s1, s2) q = if s1 = 3 then (rsO (gtS q s2)).map (fun x => (x, 1)) else if (gtS q s2).size = 0 then none else some ([gtS q s2], 1) := by rw [rgO, if_neg h0, hf]
      by_cases h3 : s1 = 3
      · rw [if_pos h3] at e
        by_cases hz : (gtS q s2).size = 0
        · rw [rsO, if_pos hz] at e
          exact Or.inr (Or.inr (Or.inr (Or.inr (Or.inr (Or.inl ⟨h3, rfl, hz, e⟩)))))
        · rw [rsO, if_neg hz] at e
          refine Or.inr (Or.inr (Or.inr (Or.inr (Or.inr (Or.inr ⟨h3, rfl, by omega, ?_⟩)))))
          rw [e]
          split <;> rfl
      · rw [if_neg h3] at e
        by_cases hz : (gtS q s2).size = 0
        · rw [if_pos hz] at e
          exact Or.inr (Or.inr (Or.inr (Or.inl ⟨by omega, rfl, hz, e⟩)))
        · rw [if_neg hz] at e
          exact Or.inr (Or.inr (Or.inr (Or.inr (Or.inl ⟨by omega, rfl, by omega, e⟩))))

set_option maxHeartbeats 3200000 in
set_option maxRecDepth 100000 in
theorem build15 (v1 v2 : Value) (l : List Sg) (q : List Pr) (w : World) (h1 : Gs w v1 l) (h2 : Ps w v2 q) (hz : q.length ≤ 1000000000) (hs : ∀ p ∈ q, p.2.size ≤ 100000000) (hgs : ∀ g ∈ l, g.2.size ≤ 9223372036854775807) :
    Calls Tryz.prog 55 #[v1, v2] w fun e w' => ∃ v, e = .returned (.tuple #[v, .bool (bdB l q)]) ∧ Ss w' v (bdL l q) ∧ Below w.heap.size w w' := by
  by_cases hr : rgB l = true
  · have HG := Lib.hid h1
    have HP := Lib.hid h2
    have hl8 := rg_len hr
    have HS := Lib.hid hs
    have HGS := Lib.hid hgs
    obtain ⟨A, cap, rfl, hcap, _, hc⟩ := h1
    have HC := Lib.hid hc
    obtain ⟨A2, c2, rfl, hc2, _, _⟩ := h2
    clear hc hs hgs
    go_enter Tryz.func55, Tryz.ntmps55
    go_wp2_with (first | (go_at_call 72; refine (rightPat17 _ _ _ HG.out HGS.out).mono ?_; rintro e w6 ⟨rfl, h6⟩; rw [hr]; have H6 := Lib.hid h6; clear h6))
    go_loopw [6, 7, 21] (fun p u i wr => ∃ (k : Nat) (xs : List ByteArray) (n : Nat), k ≤ l.length ∧ i = .int .i64 k ∧ u = .int .i64 n ∧ OwnS w6.heap.size w6 p xs wr ∧ RbMid l q k xs n) (fun _ _ i _ => l.length - (intOf i).toNat)
    case atStart => exact ⟨0, [], 0, Nat.zero_le _, rfl, rfl, nilS _ _ _ (Below.refl _ _) (Nat.le_refl _), by simp, by simp, by omega⟩
    case round =>
      obtain ⟨k, xs, n, hk, rfl, rfl, hown, hmid⟩ := hrel
      have HO := Lib.hid hown
      have HM := Lib.hid hmid
      have hxk := hmid.2.1
      have hnk := hmid.2.2
      obtain ⟨A7, n7, c7, hv7⟩ := hown.ss.shape
      subst hv7
      clear hown hmid
      by_cases hlt : k < l.length
      · have d0 : (k : Int) < (l.length : Int) := by omega
        obtain ⟨x, o, rfl, hcell, hcelb⟩ := HC.out k hlt
        have hbz := H6.out.trans (HO.out.2.1.mono H6.out.size)
        have g1 : wr.cell? ⟨x, o + k * 2, none⟩ = some (.int .i64 (l.getD k default).1) := by rw [hbz.cell (World.block_lt_of_cell? _ _ hcell)]; exact hcell
        have g3 : wr.cell? ⟨x, o + k * 2 + 1, none⟩ = some (.string (l.getD k default).2) := by rw [hbz.cell (World.block_lt_of_cell? _ _ hcelb)]; exact hcelb
        have HBZ := Lib.hid hbz
        have hkd := (ok_parts hr (getD_mem l k hlt)).2
        obtain ⟨⟨s1, s2⟩, hg⟩ : ∃ g, l.getD k default = g := ⟨_, rfl⟩
        have HST := Lib.hid (fun ys m => @rb_step l q k xs n HM.out hlt s1 s2 hg ys m)
        have HSP := Lib.hid (@rb_stop l q k xs n HM.out hlt s1 s2 hg)
        rw [hg] at g1 g3 hkd
        simp only at g1 g3 hkd
        have HCS := Lib.hid (rg_ways s1 s2 q hkd)
        clear hcell hcelb hbz hg hkd
        have HX := Lib.hid (blk_new wr (.cells #[.int .i64 s1, .string s2] 28 (0, 0)))
        have HY := Lib.hid ((Below.refl wr.heap.size wr).alloc (Nat.le_refl _) (.cells #[.int .i64 s1, .string s2] 28 (0, 0)))
        have HO9 := Lib.hid (HO.out.alloc (.cells #[.int .i64 s1, .string s2] 28 (0, 0)))
        have HB9 := Lib.hid (HBZ.out.trans (HY.out.mono HBZ.out.size))
        have eb : Hid (xs.length ≤ 1000000000) := by show _ ≤ _; omega
        have d5 : IntKind.i64.wrap ((k : Int) + 1) = (k : Int) + 1 := IntWalk.i64_in _ (by omega)
        have d6 : IntKind.i64.wrap ((n : Int) + 1) = (n : Int) + 1 := IntWalk.i64_in _ (by omega)
        have hv8 : gtB q s2 = true → (gtS q s2).size ≤ 100000000 := fun h => by
          obtain ⟨p, hp, _, e⟩ := gt_mem h
          rw [e]
          exact HS.out p hp
        have HV8 := Lib.hid hv8
        clear hv8
        go_wp2_with fail
        generalize wr.alloc (.cells #[.int .i64 s1, .string s2] 28) = w9 at *
        generalize wr.heap.size = R at *
        refine (value32 _ q s2 _ (HP.out.call HB9.out) hz).mono ?_
        rintro e w1 ⟨rfl, h⟩
        have HX1 := Lib.hid (blk_call HX.out h)
        have HO1 := Lib.hid (HO9.out.call h)
        have HB1 := Lib.hid (HB9.out.trans (h.mono HB9.out.size))
        obtain ⟨k0, k1, _, _⟩ := blk2 HX1.out
        clear h HX HO9 HB9 HO
        rcases HCS.out with ⟨rfl, hR⟩ | ⟨rfl, hb, hR⟩ | ⟨hss, hb, hR⟩ | ⟨hss, hb, hV, hR⟩ | ⟨hss, hb, hV, hR⟩ | ⟨rfl, hb, hV, hR⟩ | ⟨rfl, hb, hV, hR⟩
        · have HN := Lib.hid (HST.out _ _ hR (by simp) (by omega))
          clear hR
          go_wp2_with (first | (at_builtin; refine wpList_appS _ rfl (.tmp 44) (.tmp 47) rfl w6.heap.size w6 _ xs rfl (HO1.out.alloc _) ?b1 w1.heap.size 1 1 [s2] rfl rfl (by omega) (heap_alloc_new _ _) ?_))
          case b1 => exact eb.out
          intro v4 w4 h4 _ _
          have H4 := Lib.hid h4
          clear h4
          go_wp2_with fail
          go_roundw
          case rel => exact ⟨k + 1, xs ++ [s2], n, by omega, by go_num, rfl, H4.out, HN.out⟩
          case measure => simp [intOf]; omega
        · have HN := Lib.hid (HST.out _ _ hR (by simp) (by omega))
          rw [hb]
          clear hR hb
          go_wp2_with fail
          go_roundw
          case rel => exact ⟨k + 1, xs ++ [], n, by omega, by go_num, rfl, by rw [List.append_nil]; exact HO1.out, HN.out⟩
          case measure => simp [intOf]; omega
        · have HE := Lib.hid (HSP.out hR)
          rw [hb]
          clear hR hb
          rcases hss with rfl | rfl
          all_goals
            go_wp2
            rw [HE.out.1, HE.out.2]
            go_ret2
            exact ⟨_, rfl, ss_nil _, HB1.out⟩
        · have HE := Lib.hid (HSP.out hR)
          rw [hb]
          generalize gtS q s2 = V at *
          clear hR hb
          rcases hss with rfl | rfl
          all_goals
            go_wp2
            rw [HE.out.1, HE.out.2]
            go_ret2
            exact ⟨_, rfl, ss_nil _, HB1.out⟩
        · have HN := Lib.hid (HST.out _ _ hR (by simp) (by omega))
          rw [hb]
          generalize gtS q s2 = V at *
          have z0 : ((V.size : Int) == 0) = false := by rw [beq_eq_false_iff_ne]; omega
          have z1 : ¬ (V.size : Int) = 0 := by omega
          have z2 : ¬ V.size = 0 := by omega
          clear hR hb
          rcases hss with rfl | rfl
          all_goals
            go_wp2_with (first | (at_builtin; refine wpList_appS _ rfl (.tmp 74) (.tmp 76) rfl w6.heap.size w6 _ xs rfl (HO1.out.alloc _) ?b1 w1.heap.size 1 1 [V] rfl rfl (by omega) (heap_alloc_new _ _) ?_))
            case b1 => exact eb.out
            intro v4 w4 h4 _ _
            have H4 := Lib.hid h4
            clear h4
            go_wp2_with fail
            go_roundw
            case rel => exact ⟨k + 1, xs ++ [V], n + 1, by omega, by go_num, by go_num, H4.out, HN.out⟩
            case measure => simp [intOf]; omega
        · have HN := Lib.hid (HST.out _ _ hR (by simp) (by omega))
          rw [hb, empty_of hV]
          clear hR hb hV
          go_wp2_with fail
          go_roundw
          case rel => exact ⟨k + 1, xs ++ [], n + 1, by omega, by go_num, by go_num, by rw [List.append_nil]; exact HO1.out, HN.out⟩
          case measure => simp [intOf]; omega
        · have HV9 := HV8.out hb
          rw [hb]
          generalize gtS q s2 = V at *
          have z3 := ne_empty V hV
          have z4 : V.toList.isEmpty = false := by simpa using z3
          have HR := Lib.hid hR
          clear hR hb
          go_wp2_with fail
          refine (split33 V 47 _ HV9).mono ?_
          rintro e w2 ⟨v2, rfl, hown2⟩
          have hpl := spl_ne 47 V
          have hpl2 := spl_len 47 V
          have HPZ := Lib.hid (fun p hp => Nat.le_trans (spl_size 47 V p hp) HV9)
          have HB2 := Lib.hid (HB1.out.trans (hown2.2.1.mono HB1.out.size))
          have HO2 := Lib.hid (HO1.out.call hown2.2.1)
          have HS2 := Lib.hid hown2.ss
          have hlt2 := hown2.1.lt
          obtain ⟨A3, c3, hv2, hc3, _, hpc⟩ := hown2.ss
          obtain ⟨b2, o2, rfl, _⟩ := hpc 0 (by omega)
          subst hv2
          have hb2 := (hlt2 b2 rfl)
          have hnb : ∀ b, (Value.slice A7 n7 c7).ownBlock = some b → b < w1.heap.size := fun b hb => (HO1.out.1.lt b hb).2
          have HNB : Hid ((Value.slice A7 n7 c7).ownBlock ≠ some b2) := fun e => by have := hnb b2 e; omega
          have hb2l := hb2.2
          clear hown2 hlt2 hpc hb2 hnb HO1
          generalize spl 47 V = P at *
          go_wp2_with fail
          go_loopw [6, 84] (fun p i wz => ∃ (j : Nat), j ≤ P.length ∧ i = .int .i64 j ∧ (P.take j).all rpB = true ∧ OwnS w6.heap.size w6 p (xs ++ (P.take j).map decS) wz ∧ Ss wz (.slice (some ⟨b2, o2, none⟩) P.length c3) P ∧ p.ownBlock ≠ some b2 ∧ b2 < wz.heap.size) (fun _ i _ => P.length - (intOf i).toNat)
          case atStart => exact ⟨0, Nat.zero_le _, rfl, by simp, by simpa using HO2.out, HS2.out, HNB.out, hb2l⟩
          case round =>
            obtain ⟨j, hj, rfl, hall, hown, hss, hnb, hbl⟩ := hrel
            have HA := Lib.hid hall
            have HO3 := Lib.hid hown
            have HS3 := Lib.hid hss
            have HN3 := Lib.hid hnb
            obtain ⟨A8, n8, c8, hv8⟩ := hown.ss.shape
            subst hv8
            have HB3 := Lib.hid (H6.out.trans (hown.2.1.mono H6.out.size))
            clear hall hown hnb
            by_cases hlj : j < P.length
            · have e0 : (j : Int) < (P.length : Int) := by omega
              have e1 : IntKind.i64.wrap ((j : Int) + 1) = (j : Int) + 1 := IntWalk.i64_in _ (by omega)
              obtain ⟨A9, c9, hv9, _, _, hpc⟩ := hss
              obtain ⟨b3, o3, rfl, hcx⟩ := hpc j hlj
              simp only [Value.slice.injEq, Option.some.injEq, Addr.mk.injEq] at hv9
              obtain ⟨⟨rfl, rfl, _⟩, _, rfl⟩ := hv9
              have htk : P.take (j + 1) = P.take j ++ [P.getD j default] := by
                rw [List.take_add_one]
                simp only [List.getD, List.getElem?_eq_getElem hlj, Option.toList_some, Option.getD_some]
              have HTK := Lib.hid htk
              have hxz := HPZ.out _ (getD_mem P j hlj)
              have HNO := Lib.hid (all_not rpB P j hlj)
              clear hpc htk
              generalize P.getD j default = X at *
              have hez : (decS X).size ≤ 100000000 := by
                rw [decS, st_size]
                cases hd : decL (bs X) with
                | none => simp
                | some m =>
                  have := (dec_inR (bs X) m (bs_inR X) hd).2
                  rw [bs_len] at this
                  simp only [Option.getD_some]
                  omega
              have HEZ := Lib.hid hez
              have HER : Hid (rpB X = false → bdB l q = false ∧ bdL l q = []) := fun h => HSP.out (by rw [HR.out, HNO.out h]; rfl)
              clear hez
              by_cases hd : decB X = true
              · by_cases hz0 : 1 ≤ (decS X).size
                · have y1 := ne_empty _ hz0
                  have y2 : (decS X).toList.isEmpty = false := by simpa using y1
                  by_cases he : encS (decS X) = X
                  · have y3 := str_beq _ _ he
                    have HPX : Hid (rpB X = true) := by
                      show _ = _
                      have hn0 : ¬ decS X = ⟨#[]⟩ := fun e => by rw [e] at hz0; exact absurd hz0 (by decide)
                      rw [rpB, hd, decide_eq_true he, decide_eq_true hn0]
                      rfl
                    clear he hz0
                    have eb2 : Hid ((xs ++ (P.take j).map decS).length ≤ 1000000000) := by
                      show _ ≤ _
                      rw [List.length_append, List.length_map, List.length_take]
                      omega
                    go_wp2_with (first
                      | (go_at_call 48; refine (decodeR X _ hxz).mono ?_; rintro e w3 ⟨rfl, h3⟩; rw [hd]; have H3 := Lib.hid h3; clear h3)
                      | (go_at_call 76; refine (encodeR (decS X) _ HEZ.out).mono ?_; rintro e w4 ⟨rfl, h4⟩; have H4 := Lib.hid (H3.out.trans (h4.mono H3.out.size)); clear h4)
                      | (at_builtin; refine wpList_appS _ rfl (.tmp 105) (.tmp 107) rfl w6.heap.size w6 _ (xs ++ (P.take j).map decS) rfl ((HO3.out.call H4.out).alloc _) ?b1 w4.heap.size 1 1 [decS X] rfl rfl (by omega) (heap_alloc_new _ _) ?_))
                    case b1 => exact eb2.out
                    intro v5 w5 h5 g5 hn5
                    have hl4 := H4.out.size
                    have H5 := Lib.hid h5
                    have HN5 : Hid (v5.ownBlock ≠ some b2) := by
                      intro e
                      rcases hn5 with h | h
                      · rw [h] at e; exact HN3.out e
                      · rw [h] at e
                        simp at e
                        omega
                    have HS5 := Lib.hid (((HS3.out.call H4.out).call ((Below.refl _ _).alloc (Nat.le_refl _) _)).kept g5 (fun e => HN3.out e.symm))
                    have hl5 : b2 < w5.heap.size := by have := g5.size; simp at this; omega
                    have HL5 := Lib.hid hl5
                    clear h5 g5 hn5 hl5
                    go_wp2_with fail
                    go_roundw
                    case rel => exact ⟨j + 1, by omega, by go_num, by rw [HTK.out, List.all_append, HA.out]; simp [HPX.out], by have h := H5.out; rw [HTK.out, List.map_append, List.map_take]; rw [← List.append_assoc] at h ⊢; exact h, HS5.out, HN5.out, HL5.out⟩
                    case measure => simp [intOf]; omega
                  · have y3 := str_bne _ _ he
                    have HE := Lib.hid (HER.out (by rw [rpB, decide_eq_false he]; simp))
                    clear he hz0
                    go_wp2_with (first
                      | (go_at_call 48; refine (decodeR X _ hxz).mono ?_; rintro e w3 ⟨rfl, h3⟩; rw [hd]; have H3 := Lib.hid h3; clear h3)
                      | (go_at_call 76; refine (encodeR (decS X) _ HEZ.out).mono ?_; rintro e w4 ⟨rfl, h4⟩; have H4 := Lib.hid (H3.out.trans (h4.mono H3.out.size)); clear h4))
                    rw [HE.out.1, HE.out.2]
                    go_ret2
                    exact ⟨_, rfl, ss_nil _, HB3.out.trans (H4.out.mono HB3.out.size)⟩
                · have y1 := is_empty (decS X) (by omega)
                  have y2 : (decS X).toList.isEmpty = true := by simpa using y1
                  have HE := Lib.hid (HER.out (by rw [rpB, decide_eq_false (fun h => h (empty_of (by omega)))]; simp))
                  clear hz0
                  go_wp2_with (first
                    | (go_at_call 48; refine (decodeR X _ hxz).mono ?_; rintro e w3 ⟨rfl, h3⟩; rw [hd]; have H3 := Lib.hid h3; clear h3))
                  rw [HE.out.1, HE.out.2]
                  go_ret2
                  exact ⟨_, rfl, ss_nil _, HB3.out.trans (H3.out.mono HB3.out.size)⟩
              · have hd : decB X = false := by simpa using hd
                have HE := Lib.hid (HER.out (by rw [rpB, hd]; rfl))
                go_wp2_with (first
                  | (go_at_call 48; refine (decodeR X _ hxz).mono ?_; rintro e w3 ⟨rfl, h3⟩; rw [hd]; have H3 := Lib.hid h3; clear h3))
                rw [HE.out.1, HE.out.2]
                go_ret2
                exact ⟨_, rfl, ss_nil _, HB3.out.trans (H3.out.mono HB3.out.size)⟩
            · obtain rfl : j = P.length := by omega
              have HN := Lib.hid (HST.out (P.map decS) 1 (by rw [HR.out, if_pos (by simpa using HA.out)]) (by rw [List.length_map]; omega) (by omega))
              have HO4 : Hid (OwnS w6.heap.size w6 (.slice A8 n8 c8) (xs ++ P.map decS) wr) := by have := HO3.out; rw [List.take_length] at this; exact this
              clear hss
              go_wp2_with fail
              go_roundw
              case rel => exact ⟨k + 1, xs ++ P.map decS, n + 1, by omega, by go_num, by go_num, HO4.out, HN.out⟩
              case measure => simp [intOf]; omega
      · obtain rfl : k = l.length := by omega
        obtain ⟨e1, e2⟩ := rb_end hr HM.out
        have E1 := Lib.hid e1
        have E2 := Lib.hid e2
        have HBr := Lib.hid (H6.out.trans (HO.out.2.1.mono H6.out.size))
        have HSS := Lib.hid HO.out.ss
        clear e1 e2
        by_cases hn : n = q.length
        · have c7 : ((n : Int) != (q.length : Int)) = false := by rw [bne_eq_false_iff_eq]; omega
          have c8 : (n != q.length) = false := by rw [bne_eq_false_iff_eq]; exact hn
          have HNN := Lib.hid hn
          clear hn
          rcases hb : rightB xs [] with _ | _
          · have HE := Lib.hid (E2.out (fun h => by rw [hb] at h; exact absurd h.2 (by decide)))
            go_wp2_with (first | (go_at_call 49; refine (right35 _ _ xs [] _ HSS.out (ps_nil _)).mono ?_; rintro e w3 ⟨rfl, h3⟩; rw [hb]; have H3 := Lib.hid h3; clear h3))
            rw [HE.out.1, HE.out.2]
            go_ret2
            exact ⟨_, rfl, ss_nil _, HBr.out.trans (H3.out.mono HBr.out.size)⟩
          · have HE := Lib.hid (E1.out HNN.out hb)
            go_wp2_with (first | (go_at_call 49; refine (right35 _ _ xs [] _ HSS.out (ps_nil _)).mono ?_; rintro e w3 ⟨rfl, h3⟩; rw [hb]; have H3 := Lib.hid h3; clear h3))
            rw [HE.out.1, HE.out.2]
            go_ret2
            exact ⟨_, rfl, HSS.out.call H3.out, HBr.out.trans (H3.out.mono HBr.out.size)⟩
        · have c7 : ((n : Int) != (q.length : Int)) = true := by rw [bne_iff_ne]; omega
          have c8 : (n != q.length) = true := by rw [bne_iff_ne]; exact hn
          have HE := Lib.hid (E2.out (fun h => hn h.1))
          go_wp2
          rw [HE.out.1, HE.out.2]
          go_ret2
          exact ⟨_, rfl, ss_nil _, HBr.out⟩
  · have hr : rgB l = false := by simpa using hr
    have HE : Hid (bdB l q = false ∧ bdL l q = []) := by
      show _ ∧ _
      have : bdO l q = none := by rw [bdO, if_neg (by rw [hr]; decide)]
      rw [bdB, bdL, this]
      exact ⟨rfl, rfl⟩
    have HG := Lib.hid h1
    have HGS := Lib.hid hgs
    obtain ⟨A, n, c, rfl⟩ := h1.shape
    obtain ⟨A2, n2, c2, rfl⟩ := h2.shape
    clear h1 h2 hs hgs
    go_enter Tryz.func55, Tryz.ntmps55
    go_wp2_with (first | (go_at_call 72; refine (rightPat17 _ _ _ HG.out HGS.out).mono ?_; rintro e w6 ⟨rfl, h6⟩; rw [hr]; have H6 := Lib.hid h6; clear h6))
    rw [HE.out.1, HE.out.2]
    go_ret2
    exact ⟨_, rfl, ss_nil _, H6.out⟩
end Go.Proofs.YthigandmemifoaaGreatDoor
