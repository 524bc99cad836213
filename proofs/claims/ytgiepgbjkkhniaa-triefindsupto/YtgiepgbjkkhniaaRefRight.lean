/-
  The reference's RightPattern.
-/
import Derived.Test.YtgiepgbjkkhniaaRefWord
namespace Go.Proofs.Ytgiepgbjkkhniaa
open Go.RowKit Go.PlainAid Go.Maps

theorem rp_cases (l : List Sg) (k : Nat) (h : k < l.length) (s1 : Int) (s2 : ByteArray) (hg : l.getD k default = (s1, s2)) :
    ((s1 < 0 ∨ 3 < s1) ∧ okB l k = false) ∨ (0 ≤ s1 ∧ s1 ≤ 3 ∧ txB s2 = false ∧ okB l k = false) ∨ (txB s2 = true ∧ (s1 = 2 ∨ s1 = 3) ∧ k + 1 < l.length ∧ okB l k = false) ∨ (txB s2 = true ∧ s1 = 0 ∧ okB l k = true)
    ∨ (txB s2 = true ∧ (s1 = 1 ∨ ((s1 = 2 ∨ s1 = 3) ∧ k + 1 = l.length)) ∧ okB l k = !((l.take k).any (fun o => decide (o.1 ≠ 0 ∧ o.2 = s2)))) := by
  have e0 : okB l k = (stB s1 (decide (k + 1 = l.length)) && (txB s2 && !twB (s1, s2) (l.take k))) := by rw [okB, hg]
  by_cases c1 : s1 < 0 ∨ 3 < s1
  · refine Or.inl ⟨c1, ?_⟩
    rw [e0, stB, if_neg (by omega), if_neg (by omega)]
    rfl
  · by_cases c2 : txB s2 = true
    · have hs : s1 = 0 ∨ s1 = 1 ∨ s1 = 2 ∨ s1 = 3 := by omega
      have ht : ∀ x : Int, x ≠ 0 → twB (x, s2) (l.take k) = (l.take k).any (fun o => decide (o.1 ≠ 0 ∧ o.2 = s2)) := by
        intro x hx
        rw [twB, if_neg hx]
        rfl
      rcases hs with rfl | rfl | rfl | rfl
      · refine Or.inr (Or.inr (Or.inr (Or.inl ⟨c2, rfl, ?_⟩)))
        rw [e0, c2]
        rfl
      · refine Or.inr (Or.inr (Or.inr (Or.inr ⟨c2, Or.inl rfl, ?_⟩)))
        rw [e0, c2, ht 1 (by decide)]
        simp [stB]
      · by_cases c3 : k + 1 = l.length
        · refine Or.inr (Or.inr (Or.inr (Or.inr ⟨c2, Or.inr ⟨Or.inl rfl, c3⟩, ?_⟩)))
          rw [e0, c2, ht 2 (by decide), decide_eq_true c3]
          simp [stB]
        · refine Or.inr (Or.inr (Or.inl ⟨c2, Or.inl rfl, by omega, ?_⟩))
          rw [e0, decide_eq_false c3]
          simp [stB]
      · by_cases c3 : k + 1 = l.length
        · refine Or.inr (Or.inr (Or.inr (Or.inr ⟨c2, Or.inr ⟨Or.inr rfl, c3⟩, ?_⟩)))
          rw [e0, c2, ht 3 (by decide), decide_eq_true c3]
          simp [stB]
        · refine Or.inr (Or.inr (Or.inl ⟨c2, Or.inr rfl, by omega, ?_⟩))
          rw [e0, decide_eq_false c3]
          simp [stB]
    · have c2 : txB s2 = false := by simpa using c2
      refine Or.inr (Or.inl ⟨by omega, by omega, c2, ?_⟩)
      rw [e0, c2]
      simp

theorem tx_le {s : ByteArray} (h : txB s = true) : s.size ≤ 16 := by
  rw [txB, Bool.and_eq_true] at h
  exact (of_decide_eq_true h.1).2
def NmB (l : List Sg) (k : Nat) (N : List ByteArray) : Prop := ∀ s, inB N s = (l.take k).any (fun o => decide (o.1 ≠ 0 ∧ o.2 = s))
theorem nm_next {l : List Sg} {k : Nat} {N : List ByteArray} (h : NmB l k N) (hk : k < l.length) {s1 : Int} {s2 : ByteArray} (hg : l.getD k default = (s1, s2)) : (s1 = 0 → NmB l (k + 1) N) ∧ (s1 ≠ 0 → NmB l (k + 1) (s2 :: N)) := by
  have e : l.take (k + 1) = l.take k ++ [(s1, s2)] := by
    rw [List.take_add_one]
    rw [← hg]
    simp only [List.getD, List.getElem?_eq_getElem hk, Option.toList_some, Option.getD_some]
  constructor
  · intro h0 s
    rw [e, List.any_append, ← h s, h0]
    simp
  · intro h0 s
    rw [e, List.any_append, ← h s]
    simp only [inB, List.any_cons, List.any_nil, Bool.or_false, ne_eq, h0, not_false_eq_true, true_and]
    rw [Bool.or_comm]

set_option maxRecDepth 100000 in
set_option maxHeartbeats 3200000 in
theorem rightPat17 (v : Value) (l : List Sg) (w : World) (h : Gs w v l) (hs : ∀ g ∈ l, g.2.size ≤ 9223372036854775807) :
    Calls Try.prog 15 #[v] w fun e w' => e = .returned (.bool (rgB l)) ∧ Below w.heap.size w w' := by
  obtain ⟨A, cap, rfl, hcap, _, hc⟩ := h
  have HC := Lib.hid hc
  have HS := Lib.hid hs
  clear hc hs
  by_cases h8 : l.length ≤ 8
  · have d1 : ¬ (8 : Int) < (l.length : Int) := by omega
    have hmm := @run_makeMap Try.prog
    go_enter Try.func15, Try.ntmps15
    go_wp2_with fail
    go_loopw [12] (fun i wr => ∃ (k : Nat) (N : List ByteArray), k ≤ l.length ∧ i = .int .i64 k ∧ (∀ j, j < k → okB l j = true) ∧ NmB l k N ∧ SetM w.heap.size k N wr ∧ Below w.heap.size w wr) (fun i _ => l.length - (intOf i).toNat)
    case atStart => exact ⟨0, [], Nat.zero_le _, rfl, by simp, fun s => rfl, setM_new _, (Below.refl _ _).alloc (Nat.le_refl _) _⟩
    case round =>
      obtain ⟨k, N, hk, rfl, hall, hnm, hset, hbw⟩ := hrel
      have HA := Lib.hid hall
      have HW := Lib.hid hbw
      have HN := Lib.hid hnm
      have HM := Lib.hid hset
      clear hall hbw hnm hset
      by_cases hlt : k < l.length
      · have d0 : (k : Int) < (l.length : Int) := by omega
        obtain ⟨x, o, rfl, hcell, hcelb⟩ := HC.out k hlt
        have g1 : wr.cell? ⟨x, o + k * 2, none⟩ = some (.int .i64 (l.getD k default).1) := by rw [HW.out.cell (World.block_lt_of_cell? _ _ hcell)]; exact hcell
        have g3 : wr.cell? ⟨x, o + k * 2 + 1, none⟩ = some (.string (l.getD k default).2) := by rw [HW.out.cell (World.block_lt_of_cell? _ _ hcelb)]; exact hcelb
        have HQ := Lib.hid (@rg_not l k hlt)
        have HZ := Lib.hid (HS.out _ (getD_mem l k hlt))
        obtain ⟨⟨s1, s2⟩, hg⟩ : ∃ g, l.getD k default = g := ⟨_, rfl⟩
        have HX := Lib.hid (rp_cases l k hlt s1 s2 hg)
        have HE := Lib.hid (nm_next HN.out hlt hg)
        have HIN := Lib.hid (HN.out s2)
        rw [hg] at g1 g3 HZ
        simp only at g1 g3
        clear hcell hcelb hg
        have hsz := HW.out.size
        have HY := Lib.hid (HW.out.alloc HW.out.size (.cells #[.int .i64 s1, .string s2] 23 (0, 0)))
        have HM9 := Lib.hid (HM.out.alloc (.cells #[.int .i64 s1, .string s2] 23 (0, 0)))
        have d5 : IntKind.i64.wrap ((k : Int) + 1) = (k : Int) + 1 := IntWalk.i64_in _ (by omega)
        rcases HX.out with ⟨c1, hok⟩ | ⟨c1, c2, htx, hok⟩ | ⟨htx, c1, c2, hok⟩ | ⟨htx, rfl, hok⟩ | ⟨htx, c1, hok⟩
        · have E1 := Lib.hid (HQ.out hok)
          clear hok
          rcases c1 with c1 | c1
          all_goals
            go_wp2
            all_goals
              rw [E1.out]
              go_ret
              exact ⟨rfl, HY.out⟩
        · have E1 := Lib.hid (HQ.out hok)
          have HT := Lib.hid htx
          clear hok htx
          go_wp2_with (first | (go_at_call 29; refine (word39 _ _ HZ.out).mono ?_; rintro e w' ⟨rfl, hww⟩; subst hww; rw [HT.out]))
          rw [E1.out]
          go_ret
          exact ⟨rfl, HY.out⟩
        · have E1 := Lib.hid (HQ.out hok)
          have HT := Lib.hid htx
          have c3 : (k : Int) + 1 < (l.length : Int) := by omega
          clear hok htx
          rcases c1 with rfl | rfl
          all_goals
            go_wp2_with (first | (go_at_call 29; refine (word39 _ _ HZ.out).mono ?_; rintro e w' ⟨rfl, hww⟩; subst hww; rw [HT.out]))
            rw [E1.out]
            go_ret
            exact ⟨rfl, HY.out⟩
        · have HT := Lib.hid htx
          have HOK := Lib.hid hok
          clear hok htx
          go_wp2_with (first | (go_at_call 29; refine (word39 _ _ HZ.out).mono ?_; rintro e w' ⟨rfl, hww⟩; subst hww; rw [HT.out]))
          go_roundw
          case rel =>
            refine ⟨k + 1, N, by omega, by go_num, ?_, HE.out.1 (by first | rfl | trivial), ?_, HY.out⟩
            · intro j hj
              by_cases e : j = k
              · subst e; exact HOK.out
              · exact HA.out j (by omega)
            · obtain ⟨D, m1, m2⟩ := HM9.out
              exact ⟨D, m1.mono (by omega), m2⟩
          case measure => simp [intOf]; omega
        · have HT := Lib.hid htx
          have h16 := tx_le htx
          have HL : Hid (s2.size ≤ maxLen) := by show _ ≤ _; unfold maxLen; omega
          have c4 : Hid (¬ (k : Int) + 1 < (l.length : Int) ∨ s1 = 1) := by show _ ∨ _; omega
          have c5 : s1 = 1 ∨ s1 = 2 ∨ s1 = 3 := by omega
          have HNL : Hid (k < maxLen) := by show _ < _; unfold maxLen; omega
          rw [← HIN.out] at hok
          clear htx c1
          rcases hin : inB N s2 with _ | _
          · rw [hin] at hok
            have HI := Lib.hid hin
            have HOK : Hid (okB l k = true) := hok
            clear hok hin
            rcases c5 with rfl | rfl | rfl
            · go_wp2_with (first | (go_at_call 29; refine (word39 _ _ HZ.out).mono ?_; rintro e w' ⟨rfl, hww⟩; subst hww; rw [HT.out]) | (at_lookup; refine wpList_setLook _ rfl (.tmp 46) (.tmp 48) rfl w.heap.size k N rfl HM9.out s2 rfl HL.out ?_; rw [HI.out]) | (at_mapUpdate; refine wpList_setPut _ rfl (.tmp 50) (.tmp 52) _ rfl w.heap.size k N rfl HM9.out s2 rfl HL.out rfl HNL.out ?_; intro w1 hs1 hg1; have HS1 := Lib.hid hs1; have HG1 := Lib.hid (HY.out.grown hg1 HY.out.size (fun j hj => by cases hj; exact Nat.le_refl _)); clear hs1 hg1))
              go_roundw
              case rel =>
                refine ⟨k + 1, s2 :: N, by omega, by go_num, ?_, HE.out.2 (by decide), HS1.out, HG1.out⟩
                intro j hj
                by_cases e : j = k
                · subst e; exact HOK.out
                · exact HA.out j (by omega)
              case measure => simp [intOf]; omega
            · have c6 : ¬ (k : Int) + 1 < (l.length : Int) := c4.out.resolve_right (by decide)
              go_wp2_with (first | (go_at_call 29; refine (word39 _ _ HZ.out).mono ?_; rintro e w' ⟨rfl, hww⟩; subst hww; rw [HT.out]) | (at_lookup; refine wpList_setLook _ rfl (.tmp 46) (.tmp 48) rfl w.heap.size k N rfl HM9.out s2 rfl HL.out ?_; rw [HI.out]) | (at_mapUpdate; refine wpList_setPut _ rfl (.tmp 50) (.tmp 52) _ rfl w.heap.size k N rfl HM9.out s2 rfl HL.out rfl HNL.out ?_; intro w1 hs1 hg1; have HS1 := Lib.hid hs1; have HG1 := Lib.hid (HY.out.grown hg1 HY.out.size (fun j hj => by cases hj; exact Nat.le_refl _)); clear hs1 hg1))
              go_roundw
              case rel =>
                refine ⟨k + 1, s2 :: N, by omega, by go_num, ?_, HE.out.2 (by decide), HS1.out, HG1.out⟩
                intro j hj
                by_cases e : j = k
                · subst e; exact HOK.out
                · exact HA.out j (by omega)
              case measure => simp [intOf]; omega
            · have c6 : ¬ (k : Int) + 1 < (l.length : Int) := c4.out.resolve_right (by decide)
              go_wp2_with (first | (go_at_call 29; refine (word39 _ _ HZ.out).mono ?_; rintro e w' ⟨rfl, hww⟩; subst hww; rw [HT.out]) | (at_lookup; refine wpList_setLook _ rfl (.tmp 46) (.tmp 48) rfl w.heap.size k N rfl HM9.out s2 rfl HL.out ?_; rw [HI.out]) | (at_mapUpdate; refine wpList_setPut _ rfl (.tmp 50) (.tmp 52) _ rfl w.heap.size k N rfl HM9.out s2 rfl HL.out rfl HNL.out ?_; intro w1 hs1 hg1; have HS1 := Lib.hid hs1; have HG1 := Lib.hid (HY.out.grown hg1 HY.out.size (fun j hj => by cases hj; exact Nat.le_refl _)); clear hs1 hg1))
              go_roundw
              case rel =>
                refine ⟨k + 1, s2 :: N, by omega, by go_num, ?_, HE.out.2 (by decide), HS1.out, HG1.out⟩
                intro j hj
                by_cases e : j = k
                · subst e; exact HOK.out
                · exact HA.out j (by omega)
              case measure => simp [intOf]; omega
          · rw [hin] at hok
            have HI := Lib.hid hin
            have E1 := Lib.hid (HQ.out hok)
            clear hok hin
            rcases c5 with rfl | rfl | rfl
            · go_wp2_with (first | (go_at_call 29; refine (word39 _ _ HZ.out).mono ?_; rintro e w' ⟨rfl, hww⟩; subst hww; rw [HT.out]) | (at_lookup; refine wpList_setLook _ rfl (.tmp 46) (.tmp 48) rfl w.heap.size k N rfl HM9.out s2 rfl HL.out ?_; rw [HI.out]))
              rw [E1.out]
              go_ret
              exact ⟨rfl, HY.out⟩
            · have c6 : ¬ (k : Int) + 1 < (l.length : Int) := c4.out.resolve_right (by decide)
              go_wp2_with (first | (go_at_call 29; refine (word39 _ _ HZ.out).mono ?_; rintro e w' ⟨rfl, hww⟩; subst hww; rw [HT.out]) | (at_lookup; refine wpList_setLook _ rfl (.tmp 46) (.tmp 48) rfl w.heap.size k N rfl HM9.out s2 rfl HL.out ?_; rw [HI.out]))
              rw [E1.out]
              go_ret
              exact ⟨rfl, HY.out⟩
            · have c6 : ¬ (k : Int) + 1 < (l.length : Int) := c4.out.resolve_right (by decide)
              go_wp2_with (first | (go_at_call 29; refine (word39 _ _ HZ.out).mono ?_; rintro e w' ⟨rfl, hww⟩; subst hww; rw [HT.out]) | (at_lookup; refine wpList_setLook _ rfl (.tmp 46) (.tmp 48) rfl w.heap.size k N rfl HM9.out s2 rfl HL.out ?_; rw [HI.out]))
              rw [E1.out]
              go_ret
              exact ⟨rfl, HY.out⟩
      · obtain rfl : k = l.length := by omega
        have E1 := Lib.hid (rg_yes h8 HA.out)
        go_wp2
        rw [E1.out]
        go_ret
        exact ⟨rfl, HW.out⟩
  · have d1 : (8 : Int) < (l.length : Int) := by omega
    have e0 : rgB l = false := by rw [rgB, decide_eq_false h8]; rfl
    rw [e0]
    go_enter Try.func15, Try.ntmps15
    go_wp2
    go_ret
    exact ⟨rfl, Below.refl _ _⟩
end Go.Proofs.Ytgiepgbjkkhniaa
