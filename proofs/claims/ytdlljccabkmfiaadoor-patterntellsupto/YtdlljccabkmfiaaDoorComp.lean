/-
  pattern.Compile.
-/
import Derived.Test.YtdlljccabkmfiaaDoorCmp
import Derived.Test.YtdlljccabkmfiaaDoorRight16
namespace Go.Proofs.YtdlljccabkmfiaaDoor
open Go.RowKit Go.PlainAid

set_option maxHeartbeats 3200000 in
theorem compile7 (s : ByteArray) (w : World) (hs : s.size ≤ 100000000) :
    Calls Tryd.prog 7 #[.string s] w fun e w' => ∃ v, e = .returned (.tuple #[v, .bool (cmB s)]) ∧ Gs w' v (cmL s) ∧ Below w.heap.size w w' := by
  by_cases h0 : s = st [47]
  · have e1 : cmB s = true := by rw [cmB, if_pos h0]
    have e2 : cmL s = [] := by rw [cmL, if_pos h0]
    rw [e1, e2]
    have h0' : s = ⟨#[47]⟩ := h0
    clear h0 e1 e2
    subst h0'
    go_enter Tryd.func7, Tryd.ntmps7
    go_wp2
    go_ret2
    exact ⟨_, rfl, gs_nil _, Below.refl _ _⟩
  · have q0 : (s.toList == [47]) = false := by
      have h1 : ¬ s = ⟨#[47]⟩ := h0
      have := bs_eq s ⟨#[47]⟩
      rw [decide_eq_false h1, Lib.toList_data ⟨#[47]⟩] at this
      exact this
    by_cases hc : cutB s 47 = true
    · have E1 : Hid (cmB s = rgB (cmI s) ∧ cmL s = if rgB (cmI s) then cmI s else []) := by
        refine ⟨?_, ?_⟩
        · rw [cmB, if_neg h0]
          show (cutB s 47 && _) = _
          rw [hc]; rfl
        · rw [cmL, if_neg h0]
          show (if cutB s 47 && _ then _ else _) = _
          rw [hc]; rfl
      have hcs : bs (cutS s 47) = (bs s).drop 1 := by
        rw [cutS, hc, if_pos rfl, bs_st (fun x hx => bs_inR s x (List.mem_of_mem_drop hx))]
      have EI := Lib.hid (cmI_is s _ hcs)
      have hz : (cutS s 47).size ≤ 100000000 := by have := cutS_size s 47; omega
      have HSz := Lib.hid (spN_size (cutS s 47))
      have hl9 := spN_len (cutS s 47)
      clear hcs h0
      obtain ⟨b, hb⟩ : ∃ b, cutS s 47 = b := ⟨_, rfl⟩
      rw [hb] at hz hl9
      have EI : Hid (cmI s = (spN 47 8 b).map rdS) := by show _ = _; rw [EI.out, hb]
      have HSz : Hid (∀ p ∈ spN 47 8 b, p.size ≤ b.size) := by show ∀ p ∈ spN 47 8 b, p.size ≤ b.size; rw [← hb]; exact HSz.out
      go_enter Tryd.func7, Tryd.ntmps7
      go_wp2_with (first | (go_at_call 22; refine (cutPre22 _ _ _).mono ?_; rintro e w' ⟨rfl, rfl⟩; rw [show ((47 : UInt8).toNat : Int) = 47 from rfl, hc, hb]))
      rename_i w0
      refine (splitN23 _ _ hz).mono ?_
      rintro e w1 ⟨v, rfl, h1, h2⟩
      generalize spN 47 8 b = L at *
      obtain ⟨A, cap, rfl, _, _, hcl⟩ := h1
      have HC := Lib.hid hcl
      have HB := Lib.hid h2
      clear hcl h2
      go_wp2_with (at_make; refine wpList_mkG _ rfl _ _ rfl w1.heap.size w1 (Below.refl _ _) (Nat.le_refl _) _ L.length rfl rfl rfl (by omega) ?_)
      intro v2 w2 h2 _
      have H2 := Lib.hid h2
      clear h2
      go_wp2_with fail
      go_loopw [7, 26] (fun v i wr => ∃ (k : Nat), k ≤ L.length ∧ i = .int .i64 k ∧ OwnG w1.heap.size w1 v ((L.take k).map rdS) wr) (fun _ i _ => L.length - (intOf i).toNat)
      case atStart => exact ⟨0, Nat.zero_le _, rfl, H2.out⟩
      case round =>
        obtain ⟨k, hk, rfl, hown⟩ := hrel
        have HO := Lib.hid hown
        clear hown
        by_cases hlt : k < L.length
        · have d0 : (k : Int) < (L.length : Int) := by omega
          obtain ⟨x, o, rfl, hcell⟩ := HC.out k hlt
          have g1 : wr.cell? ⟨x, o + k, none⟩ = some (.string (L.getD k default)) := by rw [HO.out.2.1.cell (World.block_lt_of_cell? _ _ hcell)]; exact hcell
          have hsz : (L.getD k default).size ≤ b.size := HSz.out _ (getD_mem L k hlt)
          have HN := Lib.hid (take_next rdS L k hlt)
          have eb : Hid (((L.take k).map rdS).length ≤ 1000000000) := by show _ ≤ _; rw [List.length_map, List.length_take]; omega
          have eb2 : (L.getD k default).size ≤ 1000000000 := by omega
          clear hcell hsz
          generalize L.getD k default = p at *
          go_wp2_with (first | (go_at_call 24; refine (readSeg24 _ _ eb2).mono ?_; rintro e w3 ⟨rfl, h3⟩; have HO3 := Lib.hid (HO.out.call h3); clear h3) | (at_builtin; refine wpList_appG _ rfl (.tmp 30) (.tmp 33) rfl w1.heap.size w1 _ _ rfl (HO3.out.alloc _) ?b1 w3.heap.size 1 1 [rdS p] rfl rfl (by omega) (heap_alloc_new _ _) ?_))
          case b1 => exact eb.out
          intro v4 w4 h4 _ _
          have H4 : Hid (OwnG w1.heap.size w1 v4 ((L.take (k + 1)).map rdS) w4) := by show OwnG _ _ _ _ _; rw [HN.out, List.map_take]; exact h4
          clear h4
          go_wp2_with fail
          go_roundw
          case rel => exact ⟨k + 1, by omega, by go_num, H4.out⟩
          case measure => simp [intOf]; omega
        · obtain rfl : k = L.length := by omega
          have hgs := HO.out.gs
          rw [List.take_length, ← EI.out] at hgs
          have HG := Lib.hid hgs
          have HB3 := Lib.hid (HB.out.trans (HO.out.2.1.mono HB.out.size))
          obtain ⟨A5, n5, c5, rfl⟩ := hgs.shape
          clear hgs
          by_cases hr : rgB (cmI s) = true
          · have E2 : Hid (cmB s = true ∧ cmL s = cmI s) := ⟨by rw [E1.out.1, hr], by rw [E1.out.2, hr]; rfl⟩
            go_wp2_with (first | (go_at_call 16; refine (right16 _ _ _ HG.out).mono ?_; rintro e w6 ⟨rfl, h6⟩; rw [hr]; have H6 := Lib.hid h6; clear h6))
            rw [E2.out.1, E2.out.2]
            go_ret2
            exact ⟨_, rfl, HG.out.call H6.out, HB3.out.trans (H6.out.mono HB3.out.size)⟩
          · have hr : rgB (cmI s) = false := by simpa using hr
            have E2 : Hid (cmB s = false ∧ cmL s = []) := ⟨by rw [E1.out.1, hr], by rw [E1.out.2, hr]; rfl⟩
            go_wp2_with (first | (go_at_call 16; refine (right16 _ _ _ HG.out).mono ?_; rintro e w6 ⟨rfl, h6⟩; rw [hr]; have H6 := Lib.hid h6; clear h6))
            rw [E2.out.1, E2.out.2]
            go_ret2
            exact ⟨_, rfl, gs_nil _, HB3.out.trans (H6.out.mono HB3.out.size)⟩
    · have hc : cutB s 47 = false := by simpa using hc
      have e1 : cmB s = false := by
        rw [cmB, if_neg h0]
        show (cutB s 47 && _) = _
        rw [hc]; rfl
      have e2 : cmL s = [] := by
        rw [cmL, if_neg h0]
        show (if cutB s 47 && _ then _ else _) = _
        rw [hc]; rfl
      rw [e1, e2]
      clear h0 e1 e2
      go_enter Tryd.func7, Tryd.ntmps7
      go_wp2_with (first | (go_at_call 22; refine (cutPre22 _ _ _).mono ?_; rintro e w' ⟨rfl, rfl⟩; rw [show ((47 : UInt8).toNat : Int) = 47 from rfl, hc]))
      go_ret2
      exact ⟨_, rfl, gs_nil _, Below.refl _ _⟩
end Go.Proofs.YtdlljccabkmfiaaDoor
