/-
  pattern.split, give.
-/
import Derived.Test.YtnnmbpghkflepaaDoorSplN
import Derived.Test.YtnnmbpghkflepaaDoorDec
import Derived.Test.YtnnmbpghkflepaaDoorGet
namespace Go.Proofs.YtnnmbpghkflepaaDoor
open Go.RowKit Go.PlainAid
set_option maxRecDepth 100000
theorem spN_len (s : ByteArray) : (spN 47 8 s).length ≤ 9 := by
  rw [spN, List.length_map]
  exact (splNL_len 47 8 (bs s)).2
theorem spN_size (s : ByteArray) : ∀ p ∈ spN 47 8 s, p.size ≤ s.size := by
  intro p hp
  rw [spN, List.mem_map] at hp
  obtain ⟨q, hq, rfl⟩ := hp
  rw [st_size]
  have := splNL_size 47 8 (bs s) q hq
  rw [bs_len] at this
  exact this
theorem splNL_inR (m : Int) : ∀ (n : Nat) (l : List Int), InR l → ∀ q ∈ splNL m n l, InR q := by
  intro n
  induction n with
  | zero => intro l hl q hq; simp [splNL] at hq; rw [hq]; exact hl
  | succ n ih =>
    intro l hl q hq
    rcases first_mark m l with hm | ⟨p, r, rfl, hm⟩
    · rw [splNL_none m _ l hm] at hq; simp at hq; rw [hq]; exact hl
    · rw [splNL_mark m n p r hm, List.mem_cons] at hq
      rcases hq with rfl | hq
      · exact fun x hx => hl x (by simp [hx])
      · exact ih r (fun x hx => hl x (by simp [hx])) q hq

def spL (v : ByteArray) : List ByteArray := (spO v).getD []
def spB (v : ByteArray) : Bool := (spO v).isSome
theorem sp_nil {v : ByteArray} (h : v.size = 0) : spB v = true ∧ spL v = [] := by
  rw [spB, spL, spO, if_pos h]; exact ⟨rfl, rfl⟩
theorem sp_yes {v : ByteArray} (h : ¬ v.size = 0) (ha : (spN 47 8 v).all decB = true) : spB v = true ∧ spL v = (spN 47 8 v).map decS := by
  rw [spB, spL, spO, if_neg h, if_pos ha]; exact ⟨rfl, rfl⟩
theorem sp_no {v : ByteArray} (h : ¬ v.size = 0) (ha : (spN 47 8 v).all decB = false) : spB v = false ∧ spL v = [] := by
  rw [spB, spL, spO, if_neg h, if_neg (by rw [ha]; decide)]; exact ⟨rfl, rfl⟩

set_option maxHeartbeats 3200000 in
theorem split46 (s : ByteArray) (w : World) (hs : s.size ≤ 100000000) :
    Calls Tryd.prog 41 #[.string s] w fun e w' => ∃ v, e = .returned (.tuple #[v, .bool (spB s)]) ∧ Ss w' v (spL s) ∧ Below w.heap.size w w' := by
  by_cases h0 : s.size = 0
  · have HE := Lib.hid (sp_nil h0)
    obtain rfl : s = ⟨#[]⟩ := by
      apply bs_inj
      apply List.eq_nil_of_length_eq_zero
      rw [bs_len]; exact h0
    clear h0
    go_enter Tryd.func41, Tryd.ntmps41
    go_wp2
    rw [HE.out.1, HE.out.2]
    go_ret2
    exact ⟨_, rfl, ss_nil _, Below.refl _ _⟩
  · have q0 : (s.toList == []) = false := by
      have h1 : ¬ s = ⟨#[]⟩ := fun h => h0 (by rw [h]; rfl)
      have := bs_eq s ⟨#[]⟩
      rw [decide_eq_false h1, Lib.toList_data ⟨#[]⟩] at this
      exact this
    have HY := Lib.hid (@sp_yes s h0)
    have HN := Lib.hid (@sp_no s h0)
    have HSz := Lib.hid (spN_size s)
    have hl9 := spN_len s
    clear h0
    go_enter Tryd.func41, Tryd.ntmps41
    go_wp2_with fail
    refine (splitN23 _ _ hs).mono ?_
    rintro e w1 ⟨v, rfl, h1, h2⟩
    generalize spN 47 8 s = L at *
    obtain ⟨A, cap, rfl, _, _, hcl⟩ := h1
    have HC := Lib.hid hcl
    have HB := Lib.hid h2
    clear hcl h2
    go_wp2_with (at_make; refine wpList_mkS _ rfl _ _ rfl w1.heap.size w1 (Below.refl _ _) (Nat.le_refl _) _ L.length rfl rfl rfl (by omega) ?_)
    intro v2 w2 h2 _
    have H2 := Lib.hid h2
    clear h2
    go_wp2_with fail
    go_loopw [5, 19] (fun v i wr => ∃ (k : Nat), k ≤ L.length ∧ i = .int .i64 k ∧ (L.take k).all decB = true ∧ OwnS w1.heap.size w1 v ((L.take k).map decS) wr) (fun _ i _ => L.length - (intOf i).toNat)
    case atStart => exact ⟨0, Nat.zero_le _, rfl, by simp, H2.out⟩
    case round =>
      obtain ⟨k, hk, rfl, hall, hown⟩ := hrel
      have HO := Lib.hid hown
      have HA := Lib.hid hall
      clear hown hall
      have HBr := Lib.hid (HB.out.trans (HO.out.2.1.mono HB.out.size))
      by_cases hlt : k < L.length
      · have d0 : (k : Int) < (L.length : Int) := by omega
        obtain ⟨x, o, rfl, hcell⟩ := HC.out k hlt
        have g1 : wr.cell? ⟨x, o + k, none⟩ = some (.string (L.getD k default)) := by rw [HO.out.2.1.cell (World.block_lt_of_cell? _ _ hcell)]; exact hcell
        have hsz : (L.getD k default).size ≤ s.size := HSz.out _ (getD_mem L k hlt)
        have HT := Lib.hid (take_next decS L k hlt)
        have HL := Lib.hid (all_next decB L k hlt)
        have HQ := Lib.hid (all_not decB L k hlt)
        have eb : Hid (((L.take k).map decS).length ≤ 1000000000) := by show _ ≤ _; rw [List.length_map, List.length_take]; omega
        have eb2 : (L.getD k default).size ≤ 100000000 := by omega
        clear hcell hsz
        generalize L.getD k default = p at *
        by_cases hp : decB p = true
        · go_wp2_with (first | (go_at_call 53; refine (decodeP _ _ eb2).mono ?_; rintro e w3 ⟨rfl, h3⟩; rw [hp]; have HO3 := Lib.hid (HO.out.call h3); clear h3) | (at_builtin; refine wpList_appS _ rfl (.tmp 30) (.tmp 32) rfl w1.heap.size w1 _ _ rfl (HO3.out.alloc _) ?b1 w3.heap.size 1 1 [decS p] rfl rfl (by omega) (heap_alloc_new _ _) ?_))
          case b1 => exact eb.out
          intro v4 w4 h4 _ _
          have H4 : Hid (OwnS w1.heap.size w1 v4 ((L.take (k + 1)).map decS) w4) := by show OwnS _ _ _ _ _; rw [HT.out, List.map_take]; exact h4
          clear h4
          go_wp2_with fail
          go_roundw
          case rel => exact ⟨k + 1, by omega, by go_num, by rw [HL.out, HA.out, hp]; rfl, H4.out⟩
          case measure => simp [intOf]; omega
        · have hp : decB p = false := by simpa using hp
          have HE := Lib.hid (HN.out (HQ.out hp))
          go_wp2_with (first | (go_at_call 53; refine (decodeP _ _ eb2).mono ?_; rintro e w3 ⟨rfl, h3⟩; rw [hp]; have H3 := Lib.hid h3; clear h3))
          rw [HE.out.1, HE.out.2]
          go_ret2
          exact ⟨_, rfl, ss_nil _, HBr.out.trans (H3.out.mono HBr.out.size)⟩
      · obtain rfl : k = L.length := by omega
        have HE := Lib.hid (HY.out (by rw [← HA.out, List.take_length]))
        have hgs := HO.out.ss
        rw [List.take_length] at hgs
        have HG := Lib.hid hgs
        clear hgs
        go_wp2
        rw [HE.out.1, HE.out.2]
        go_ret2
        exact ⟨_, rfl, HG.out, HBr.out⟩

def gvL (g : Sg) (ps : List Pr) : List ByteArray := (gvO g ps).getD []
def gvB (g : Sg) (ps : List Pr) : Bool := (gvO g ps).isSome
theorem gt_mem {q : List Pr} {n : ByteArray} (h : gtB q n = true) : ∃ p ∈ q, p.1 = n ∧ gtS q n = p.2 := by
  unfold gtB at h
  obtain ⟨v, hv⟩ := Option.isSome_iff_exists.1 h
  unfold gtS
  rw [hv]
  unfold gtF at hv
  rw [Option.map_eq_some_iff] at hv
  obtain ⟨p, hp, rfl⟩ := hv
  exact ⟨p, List.mem_of_find?_eq_some hp, by simpa using List.find?_some hp, rfl⟩
theorem gv_cases (g1 : Int) (g2 : ByteArray) (ps : List Pr) :
    (g1 = 0 ∧ gvB (g1, g2) ps = true ∧ gvL (g1, g2) ps = [g2]) ∨
    (g1 ≠ 0 ∧ g1 = 2 ∧ gtB ps g2 = false ∧ gvB (g1, g2) ps = true ∧ gvL (g1, g2) ps = []) ∨
    (g1 ≠ 0 ∧ g1 ≠ 2 ∧ gtB ps g2 = false ∧ gvB (g1, g2) ps = false ∧ gvL (g1, g2) ps = []) ∨
    (g1 ≠ 0 ∧ g1 = 3 ∧ gtB ps g2 = true ∧ gvB (g1, g2) ps = spB (gtS ps g2) ∧ gvL (g1, g2) ps = spL (gtS ps g2)) ∨
    (g1 ≠ 0 ∧ g1 ≠ 3 ∧ gtB ps g2 = true ∧ gvB (g1, g2) ps = true ∧ gvL (g1, g2) ps = [gtS ps g2]) := by
  by_cases h0 : g1 = 0
  · subst h0; exact Or.inl ⟨rfl, rfl, rfl⟩
  rcases hg : gtF ps g2 with _ | v
  · have hb : gtB ps g2 = false := by rw [gtB, hg]; rfl
    by_cases h2 : g1 = 2
    · refine Or.inr (Or.inl ⟨h0, h2, hb, ?_, ?_⟩) <;> simp [gvB, gvL, gvO, hg, h2]
    · refine Or.inr (Or.inr (Or.inl ⟨h0, h2, hb, ?_, ?_⟩)) <;> simp [gvB, gvL, gvO, h0, hg, h2]
  · have hb : gtB ps g2 = true := by rw [gtB, hg]; rfl
    have hs : gtS ps g2 = v := by rw [gtS, hg]; rfl
    rw [hs]
    by_cases h3 : g1 = 3
    · refine Or.inr (Or.inr (Or.inr (Or.inl ⟨h0, h3, hb, ?_, ?_⟩))) <;> simp [gvB, gvL, gvO, hg, h3, spB, spL]
    · refine Or.inr (Or.inr (Or.inr (Or.inr ⟨h0, h3, hb, ?_, ?_⟩))) <;> simp [gvB, gvL, gvO, h0, hg, h3]

set_option maxHeartbeats 3200000 in
theorem give27 (g1 : Int) (g2 : ByteArray) (v : Value) (q : List Pr) (w : World) (h : Ps w v q) (hz : q.length ≤ 1000000000) (hs : ∀ p ∈ q, p.2.size ≤ 100000000) :
    Calls Tryd.prog 27 #[.agg #[.int .i64 g1, .string g2], v] w fun e w' => ∃ v', e = .returned (.tuple #[v', .bool (gvB (g1, g2) q)]) ∧ Ss w' v' (gvL (g1, g2) q) ∧ Below w.heap.size w w' := by
  have HB := Lib.hid ((Below.refl w.heap.size w).alloc (Nat.le_refl _) (.cells #[.int .i64 g1, .string g2] 41 (0, 0)))
  have HX := Lib.hid (blk_new w (.cells #[.int .i64 g1, .string g2] 41 (0, 0)))
  have HP := Lib.hid (h.call HB.out)
  have HS := Lib.hid hs
  obtain ⟨A, n, c, rfl⟩ := h.shape
  clear h hs
  rcases gv_cases g1 g2 q with ⟨rfl, e1, e2⟩ | ⟨h0, rfl, hg, e1, e2⟩ | ⟨h0, h2, hg, e1, e2⟩ | ⟨h0, rfl, hg, e1, e2⟩ | ⟨h0, h3, hg, e1, e2⟩
  · rw [e1, e2]
    clear e1 e2
    go_enter Tryd.func27, Tryd.ntmps27
    go_wp2
    go_ret2
    exact ⟨_, rfl, ss_new (l := [g2]) (blk_new1 _ _ _) rfl, HB.out.alloc HB.out.size _⟩
  · rw [e1, e2]
    clear e1 e2
    go_enter Tryd.func27, Tryd.ntmps27
    go_wp2_with fail
    generalize w.alloc (.cells #[.int .i64 2, .string g2] 41) = w5 at *
    refine (get45 _ _ [] q g2 _ (ss_nil _) HP.out hz).mono ?_
    rintro e w1 ⟨rfl, h1⟩
    rw [hg]
    have HB1 := Lib.hid (HB.out.trans (h1.mono HB.out.size))
    obtain ⟨k0, k1, _, _⟩ := blk2 (blk_call HX.out h1)
    clear h1
    go_wp2_with fail
    go_region
    go_wp2
    go_ret2
    exact ⟨_, rfl, ss_nil _, HB1.out.drew⟩
  · rw [e1, e2]
    clear e1 e2
    have q2 : (g1 == 2) = false := by simpa using h2
    have q0 : (g1 == 0) = false := by simpa using h0
    go_enter Tryd.func27, Tryd.ntmps27
    go_wp2_with fail
    generalize w.alloc (.cells #[.int .i64 g1, .string g2] 41) = w5 at *
    refine (get45 _ _ [] q g2 _ (ss_nil _) HP.out hz).mono ?_
    rintro e w1 ⟨rfl, h1⟩
    rw [hg]
    have HB1 := Lib.hid (HB.out.trans (h1.mono HB.out.size))
    obtain ⟨k0, k1, _, _⟩ := blk2 (blk_call HX.out h1)
    clear h1
    go_wp2_with fail
    go_region
    go_wp2
    go_ret2
    exact ⟨_, rfl, ss_nil _, HB1.out.drew⟩
  · rw [e1, e2]
    have HZ : Hid ((gtS q g2).size ≤ 100000000) := by
      obtain ⟨p, hp, _, h2⟩ := gt_mem hg
      show _ ≤ _
      rw [h2]
      exact HS.out p hp
    clear e1 e2
    obtain ⟨T, hT⟩ : ∃ T, gtS q g2 = T := ⟨_, rfl⟩
    rw [hT] at HZ ⊢
    go_enter Tryd.func27, Tryd.ntmps27
    go_wp2_with fail
    generalize w.alloc (.cells #[.int .i64 3, .string g2] 41) = w5 at *
    refine (get45 _ _ [] q g2 _ (ss_nil _) HP.out hz).mono ?_
    rintro e w1 ⟨rfl, h1⟩
    rw [hg, hT]
    have HB1 := Lib.hid (HB.out.trans (h1.mono HB.out.size))
    obtain ⟨k0, k1, _, _⟩ := blk2 (blk_call HX.out h1)
    clear h1
    go_wp2_with (first | (go_at_call 41; refine (split46 _ _ HZ.out).mono ?_; rintro e w2 ⟨v2, rfl, h2, h3⟩; have H2 := Lib.hid h2; have H3 := Lib.hid h3; obtain ⟨A2, n2, c2, rfl⟩ := h2.shape; clear h2 h3))
    go_ret2
    exact ⟨_, rfl, H2.out, HB1.out.trans (H3.out.mono HB1.out.size)⟩
  · rw [e1, e2]
    clear e1 e2
    obtain ⟨T, hT⟩ : ∃ T, gtS q g2 = T := ⟨_, rfl⟩
    rw [hT]
    have q3 : (g1 == 3) = false := by simpa using h3
    have q0 : (g1 == 0) = false := by simpa using h0
    go_enter Tryd.func27, Tryd.ntmps27
    go_wp2_with fail
    generalize w.alloc (.cells #[.int .i64 g1, .string g2] 41) = w5 at *
    refine (get45 _ _ [] q g2 _ (ss_nil _) HP.out hz).mono ?_
    rintro e w1 ⟨rfl, h1⟩
    rw [hg, hT]
    have HB1 := Lib.hid (HB.out.trans (h1.mono HB.out.size))
    obtain ⟨k0, k1, _, _⟩ := blk2 (blk_call HX.out h1)
    clear h1
    go_wp2
    go_ret2
    exact ⟨_, rfl, ss_new (l := [T]) (blk_new _ _) rfl, HB1.out.alloc HB1.out.size _⟩
end Go.Proofs.YtnnmbpghkflepaaDoor
