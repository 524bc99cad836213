/-
  Put together: Ful, Right16.
-/
import Derived.Test.YtnnmbpghkflepaaGreatDoorTlP07
import Derived.Test.YtnnmbpghkflepaaGreatDoorTlP06
namespace Go.Proofs.YtnnmbpghkflepaaGreatDoor
open Go.RowKit Go.PlainAid
set_option maxRecDepth 100000

/-- few records, with few segments each -/
def Fit (l : List Rc) : Prop := l.length ≤ 20 ∧ ∀ r ∈ l, r.l.length ≤ 10
/-- the segments of these places, one behind the other -/
def sgsOf (l : List Rc) (c : List Nat) : List Sg := c.flatMap (fun k => (l.getD k default).l)
/-- the segments of a chain -/
def fuL (l : List Rc) (i : Int) : List Sg := sgsOf l (chL l i)
theorem sgs_next (l : List Rc) (c : List Nat) (k : Nat) (h : k < c.length) : sgsOf l (c.take (k + 1)) = sgsOf l (c.take k) ++ (l.getD (c.getD k 0) default).l := by
  have e : c.take (k + 1) = c.take k ++ [c.getD k 0] := by
    rw [List.take_add_one]
    simp only [List.getD, List.getElem?_eq_getElem h, Option.toList_some, Option.getD_some]
  rw [e, sgsOf, List.flatMap_append]
  simp [sgsOf]
theorem sgs_len {l : List Rc} (hf : Fit l) (c : List Nat) : (sgsOf l c).length ≤ c.length * 10 := by
  induction c with
  | nil => simp [sgsOf]
  | cons k c ih =>
    have : (l.getD k default).l.length ≤ 10 := by
      by_cases h : k < l.length
      · exact hf.2 _ (getD_mem l k h)
      · simp [List.getD, List.getElem?_eq_none (show l.length ≤ k by omega)]; decide
    simp [sgsOf] at ih this ⊢
    omega
theorem fu_len {l : List Rc} (hf : Fit l) (i : Int) : (fuL l i).length ≤ 200 := by
  have h1 := sgs_len hf (chL l i)
  have h2 := ch_len l i
  have h3 := hf.1
  unfold fuL
  omega

theorem OwnG.rebase {B B' : Nat} {w0 w1 w : World} {v : Value} {xs : List Sg} (h : OwnG B w1 v xs w) (hB : B' ≤ B) (hb : Below B' w0 w1) : OwnG B' w0 v xs w := by
  obtain ⟨⟨h1, h2⟩, h3, h4⟩ := h
  refine ⟨⟨h1, ?_⟩, hb.trans (h3.mono hB), by omega⟩
  rcases h2 with h2 | ⟨g, cap, cur, r1, r2, r3⟩
  · exact Or.inl h2
  · exact Or.inr ⟨g, cap, cur, r1, by omega, r3⟩

set_option maxHeartbeats 6400000 in
theorem full21 (v : Value) (l : List Rc) (i : Int) (w : World) (h : Rs w v l) (hf : Fit l) :
    Calls Tryz.prog 21 #[v, .int .i64 i] w fun e w' => ∃ u, e = .returned u ∧ OwnG w.heap.size w u (fuL l i) w' := by
  have HS := Lib.hid h
  have HF := Lib.hid hf
  have HC := Lib.hid (chain24 v l i w h (by have := hf.1; omega))
  have HL := Lib.hid (ch_len l i)
  have HT := Lib.hid (ch_lt l i)
  have hE : fuL l i = sgsOf l (chL l i) := rfl
  rw [hE]
  clear hE
  obtain ⟨A, cap, rfl⟩ := h.len
  clear h hf
  generalize chL l i = ch at *
  go_enter Tryz.func21, Tryz.ntmps21
  go_wp2_with (first | (go_at_call 24; refine HC.out.mono ?_; rintro e w1 ⟨u, rfl, hn, hb⟩; have B1 := Lib.hid hb; obtain ⟨A1, c1, e1, -, -, hc⟩ := hn; subst e1; have C1 := Lib.hid hc; clear hb hc))
  go_loopw [5, 12] (fun s5 s12 wr => ∃ (k : Nat), k ≤ ch.length ∧ s12 = .int .i64 k ∧ Hid (OwnG w1.heap.size w1 s5 (sgsOf l (ch.take k)) wr)) (fun _ s12 _ => ch.length - (intOf s12).toNat)
  case atStart => exact ⟨0, Nat.zero_le _, rfl, nilG _ _ _ (Below.refl _ _) (Nat.le_refl _)⟩
  case round =>
    obtain ⟨k, hk, rfl, HO⟩ := hrel
    have hb9 : ch.length ≤ 1000 := by have h2 := HL.out; have h3 := HF.out.1; omega
    have HB := Lib.hid HO.out.2.1
    obtain ⟨A5, n5, c5, h5⟩ := HO.out.gs.shape
    subst h5
    by_cases hlt : k < ch.length
    · have d0 : (k : Int) < (ch.length : Int) := by omega
      obtain ⟨x, o, rfl, hcell⟩ := C1.out k hlt
      have g0 : wr.cell? ⟨x, o + k, none⟩ = some (.int .i64 (ch.getD k 0 : Nat)) := by rw [HB.out.cell (World.block_lt_of_cell? _ _ hcell)]; exact hcell
      have HN := Lib.hid (sgs_next l ch k hlt)
      have HM := Lib.hid (sgs_len HF.out (ch.take k))
      have hy := HT.out (ch.getD k 0) (by simp [List.getD, hlt])
      clear hcell
      generalize ch.getD k 0 = y at *
      have HBB : Hid (Below w.heap.size w wr) := B1.out.trans (HB.out.mono B1.out.size)
      obtain ⟨x2, o2, rfl, hat, hgs⟩ := (HS.out.call HBB.out).at y hy
      have g2 := hat.c2
      have GS := Lib.hid hgs
      have hs10 : Hid ((l.getD y default).l.length ≤ 10) := HF.out.2 _ (getD_mem l y hy)
      have d1 : (y : Int) < (l.length : Int) := by omega
      clear hat hgs
      obtain ⟨A7, n7, c7, h7⟩ := GS.out.shape
      rw [h7] at g2 GS
      go_wp2_with (first
        | (at_builtin; refine wpList_catG wr rfl (.tmp 16) (.tmp 21) rfl w1.heap.size w1 _ _ rfl HO.out (by have h1 := HM.out; have h2 := HL.out; have h3 := HF.out.1; rw [List.length_take] at h1; omega) _ _ rfl hs10.out GS.out ?_; intro v6 w6 h6 hg6; have H6 := Lib.hid h6; obtain ⟨A6, n6, c6, e6⟩ := h6.gs.shape; subst e6; clear h6 hg6))
      go_roundw
      case rel =>
        refine ⟨k + 1, by omega, by go_num, ?_⟩
        rw [HN.out]
        exact H6.out
      case measure => simp [intOf]; omega
    · obtain rfl : k = ch.length := by omega
      rw [List.take_length] at HO
      go_wp2
      go_ret
      exact ⟨_, rfl, HO.out.rebase B1.out.size B1.out⟩
end Go.Proofs.YtnnmbpghkflepaaGreatDoor

namespace Go.Proofs.YtnnmbpghkflepaaGreatDoor
open Go.RowKit Go.PlainAid
set_option maxRecDepth 100000

set_option maxHeartbeats 3200000 in
theorem right16 (v : Value) (l : List Sg) (w : World) (h : Gs w v l) :
    Calls Tryz.prog 34 #[v] w fun e w' => e = .returned (.bool (rgB l)) ∧ Below w.heap.size w w' := by
  have HG := Lib.hid h
  obtain ⟨A, cap, rfl, hcap, _, hc⟩ := h
  have HC := Lib.hid hc
  clear hc
  by_cases h8 : l.length ≤ 8
  · have d1 : ¬ (8 : Int) < (l.length : Int) := by omega
    go_enter Tryz.func34, Tryz.ntmps34
    go_wp2_with fail
    go_loopw [11] (fun i wr => ∃ (k : Nat), k ≤ l.length ∧ i = .int .i64 k ∧ (∀ j, j < k → okB l j = true) ∧ Below w.heap.size w wr) (fun i _ => l.length - (intOf i).toNat)
    case atStart => exact ⟨0, Nat.zero_le _, rfl, by simp, Below.refl _ _⟩
    case round =>
      obtain ⟨k, hk, rfl, hall, hbw⟩ := hrel
      have HA := Lib.hid hall
      have HW := Lib.hid hbw
      clear hall hbw
      by_cases hlt : k < l.length
      · have d0 : (k : Int) < (l.length : Int) := by omega
        obtain ⟨x, o, rfl, hcell, hcelb⟩ := HC.out k hlt
        have g1 : wr.cell? ⟨x, o + k * 2, none⟩ = some (.int .i64 (l.getD k default).1) := by rw [HW.out.cell (World.block_lt_of_cell? _ _ hcell)]; exact hcell
        have g3 : wr.cell? ⟨x, o + k * 2 + 1, none⟩ = some (.string (l.getD k default).2) := by rw [HW.out.cell (World.block_lt_of_cell? _ _ hcelb)]; exact hcelb
        have e0 : okB l k = (stB (l.getD k default).1 (decide (k + 1 = l.length)) && (txB (l.getD k default).2 && !twB (l.getD k default) (l.take k))) := rfl
        have E0 := Lib.hid e0
        have HQ := Lib.hid (@rg_not l k hlt)
        have hlast : ((k : Int) == (l.length : Int) - 1) = decide (k + 1 = l.length) := by
          rw [Bool.eq_iff_iff]; simp; omega
        clear hcell hcelb e0
        generalize l.getD k default = s at *
        obtain ⟨s1, s2⟩ := s
        simp only at g1 g3
        generalize hb1 : stB s1 (decide (k + 1 = l.length)) = b1 at *
        generalize hb2 : txB s2 = b2 at *
        generalize hb3 : twB (s1, s2) (l.take k) = b3 at *
        have HB1 := Lib.hid hb1
        have HB2 := Lib.hid hb2
        have HB3 := Lib.hid hb3
        clear hb1 hb2 hb3
        have HX := Lib.hid (blk_new wr (.cells #[.int .i64 s1, .string s2] 49 (0, 0)))
        have HY := Lib.hid (HW.out.alloc HW.out.size (.cells #[.int .i64 s1, .string s2] 49 (0, 0)))
        have HG9 := Lib.hid ((HG.out.call HY.out).take k hk)
        have hq : b1 = false ∨ (b1 = true ∧ b2 = false) ∨ (b1 = true ∧ b2 = true ∧ b3 = true) ∨ (b1 = true ∧ b2 = true ∧ b3 = false) := by
          cases b1 <;> cases b2 <;> cases b3 <;> simp
        have d2 : (k : Int) ≤ (l.length : Int) := by omega
        have d3 : (k : Int) ≤ (cap : Int) := by omega
        go_wp2_with fail
        generalize wr.alloc (.cells #[.int .i64 s1, .string s2] 49) = w9 at *
        have KS : Hid (∀ w' : World, Below w9.heap.size w9 w' → w'.cell? ⟨wr.heap.size, 0, none⟩ = some (.int .i64 s1) ∧ w'.cell? ⟨wr.heap.size, 1, none⟩ = some (.string s2) ∧ Below w9.heap.size w9 w') := by
          intro w' hk
          obtain ⟨a, b, _, _⟩ := blk2 (blk_call HX.out hk)
          exact ⟨a, b, hk⟩
        rcases hq with rfl | ⟨rfl, rfl⟩ | ⟨rfl, rfl, rfl⟩ | ⟨rfl, rfl, rfl⟩
        case inr.inr.inr =>
          go_region_held3 (fun w' => w'.cell? ⟨wr.heap.size, 0, none⟩ = some (.int .i64 s1) ∧ w'.cell? ⟨wr.heap.size, 1, none⟩ = some (.string s2) ∧ Below w9.heap.size w9 w')
            (first | exact KS.out _ ((Below.refl _ _).drew) | exact KS.out _ M3.out)
            (first
              | (go_at_call 50; refine (mayStand36 _ _ _).mono ?_; rintro e w1 ⟨rfl, rfl⟩; rw [HB1.out])
              | (go_at_call 51; refine (isText37 _ _).mono ?_; rintro e w1 ⟨rfl, rfl⟩; rw [HB2.out])
              | (go_at_call 52; refine (isTwice38 _ _ _ (l.take k) _ (HG9.out.call ((Below.refl _ _).drew)) (by simp; omega)).mono ?_; rintro e w1 ⟨rfl, h⟩; rw [HB3.out]; have M3 := Lib.hid (((Below.refl w9.heap.size w9).drew).trans h); clear h))
          go_wp2_with fail
          go_roundw
          case rel => exact ⟨k + 1, by omega, by go_num, fun j hj => (by rcases Nat.lt_succ_iff_lt_or_eq.1 hj with h | rfl; exact HA.out j h; rw [E0.out]; rfl), HY.out.trans (M3.out.mono (HY.out.size))⟩
          case measure => simp [intOf]; omega
        case inr.inr.inl =>
          have E1 := Lib.hid (HQ.out (by rw [E0.out]; rfl))
          go_region_held3 (fun w' => w'.cell? ⟨wr.heap.size, 0, none⟩ = some (.int .i64 s1) ∧ w'.cell? ⟨wr.heap.size, 1, none⟩ = some (.string s2) ∧ Below w9.heap.size w9 w')
            (first | exact KS.out _ ((Below.refl _ _).drew) | exact KS.out _ M3.out)
            (first
              | (go_at_call 50; refine (mayStand36 _ _ _).mono ?_; rintro e w1 ⟨rfl, rfl⟩; rw [HB1.out])
              | (go_at_call 51; refine (isText37 _ _).mono ?_; rintro e w1 ⟨rfl, rfl⟩; rw [HB2.out])
              | (go_at_call 52; refine (isTwice38 _ _ _ (l.take k) _ (HG9.out.call ((Below.refl _ _).drew)) (by simp; omega)).mono ?_; rintro e w1 ⟨rfl, h⟩; rw [HB3.out]; have M3 := Lib.hid (((Below.refl w9.heap.size w9).drew).trans h); clear h))
          go_wp2
          rw [E1.out]
          go_ret
          exact ⟨rfl, HY.out.trans (M3.out.mono (HY.out.size))⟩
        case inr.inl =>
          have E1 := Lib.hid (HQ.out (by rw [E0.out]; rfl))
          have hSd : (fun w' : World => w'.cell? ⟨wr.heap.size, 0, none⟩ = some (.int .i64 s1) ∧ w'.cell? ⟨wr.heap.size, 1, none⟩ = some (.string s2) ∧ Below w9.heap.size w9 w') (World.drew w9) := KS.out _ ((Below.refl _ _).drew)
          refine wp_region_sink (S := fun w' : World => w'.cell? ⟨wr.heap.size, 0, none⟩ = some (.int .i64 s1) ∧ w'.cell? ⟨wr.heap.size, 1, none⟩ = some (.string s2) ∧ Below w9.heap.size w9 w') (n := 1000) (by kernel_rfl) ?_
          change wpSink _ _ _ _ _ 1000 18 _ _ _
          refine sink_take1 (i := 0) (d := some 21) (v := ?_) rfl rfl (by kernel_rfl) (by decide) (by kernel_rfl) (by kernel_rfl) (fun _ _ _ h => h) (Or.inl ⟨by rfl, ?_⟩) hSd ?_
          rotate_left
          · intro wz hSw
            (try dsimp only at hSw)
            obtain ⟨q0, q1, q2⟩ := hSw
            go_simp
            (try with_reducible rfl)
          try simp only [Act.put, List.setIfInBounds_toArray, List.set_cons_zero, List.set_cons_succ]
          refine sink_take1 (i := 1) (d := some 22) (v := ?_) rfl rfl (by kernel_rfl) (by decide) (by kernel_rfl) (by kernel_rfl) (fun _ _ _ h => h) (Or.inl ⟨by rfl, ?_⟩) hSd ?_
          rotate_left
          · intro wz hSw
            (try dsimp only at hSw)
            obtain ⟨q0, q1, q2⟩ := hSw
            go_simp
            (try with_reducible rfl)
          try simp only [Act.put, List.setIfInBounds_toArray, List.set_cons_zero, List.set_cons_succ]
          refine sink_take1 (i := 2) (d := some 23) (v := ?_) rfl rfl (by kernel_rfl) (by decide) (by kernel_rfl) (by kernel_rfl) (fun _ _ _ h => h) (Or.inl ⟨by rfl, ?_⟩) hSd ?_
          rotate_left
          · intro wz hSw
            (try dsimp only at hSw)
            obtain ⟨q0, q1, q2⟩ := hSw
            go_simp
            (try with_reducible rfl)
          try simp only [Act.put, List.setIfInBounds_toArray, List.set_cons_zero, List.set_cons_succ]
          refine sink_one (i := 3) (by kernel_rfl) ?_
          refine wpOp_step rfl (fun K' hK => ?_)
          have HK := Lib.hid hK
          clear hK
          rw [if_pos (by rfl)]
          go_simp
          refine (mayStand36 _ _ _).mono ?_
          rintro e w1 ⟨rfl, rfl⟩
          rw [HB1.out]
          refine HK.out _ _ ⟨Or.inr hSd, ?_⟩
          clear HK
          try simp only [Act.put, List.setIfInBounds_toArray, List.set_cons_zero, List.set_cons_succ]
          refine sink_take1 (i := 4) (d := some 25) (v := ?_) rfl rfl (by kernel_rfl) (by decide) (by kernel_rfl) (by kernel_rfl) (fun _ _ _ h => h) (Or.inl ⟨by rfl, ?_⟩) hSd ?_
          rotate_left
          · intro wz hSw
            (try dsimp only at hSw)
            obtain ⟨q0, q1, q2⟩ := hSw
            go_simp
            (try with_reducible rfl)
          try simp only [Act.put, List.setIfInBounds_toArray, List.set_cons_zero, List.set_cons_succ]
          refine sink_take1 (i := 5) (d := some 26) (v := ?_) rfl rfl (by kernel_rfl) (by decide) (by kernel_rfl) (by kernel_rfl) (fun _ _ _ h => h) (Or.inl ⟨by rfl, ?_⟩) hSd ?_
          rotate_left
          · intro wz hSw
            (try dsimp only at hSw)
            obtain ⟨q0, q1, q2⟩ := hSw
            go_simp
            (try with_reducible rfl)
          try simp only [Act.put, List.setIfInBounds_toArray, List.set_cons_zero, List.set_cons_succ]
          refine sink_take1 (i := 6) (d := some 27) (v := ?_) rfl rfl (by kernel_rfl) (by decide) (by kernel_rfl) (by kernel_rfl) (fun _ _ _ h => h) (Or.inl ⟨by rfl, ?_⟩) hSd ?_
          rotate_left
          · intro wz hSw
            (try dsimp only at hSw)
            obtain ⟨q0, q1, q2⟩ := hSw
            go_simp
            (try with_reducible rfl)
          try simp only [Act.put, List.setIfInBounds_toArray, List.set_cons_zero, List.set_cons_succ]
          refine sink_take1 (i := 7) (d := some 28) (v := ?_) rfl rfl (by kernel_rfl) (by decide) (by kernel_rfl) (by kernel_rfl) (fun _ _ _ h => h) (Or.inl ⟨by rfl, ?_⟩) hSd ?_
          rotate_left
          · intro wz hSw
            (try dsimp only at hSw)
            obtain ⟨q0, q1, q2⟩ := hSw
            go_simp
            (try with_reducible rfl)
          try simp only [Act.put, List.setIfInBounds_toArray, List.set_cons_zero, List.set_cons_succ]
          refine sink_one (i := 8) (by kernel_rfl) ?_
          refine wpOp_step rfl (fun K' hK => ?_)
          have HK := Lib.hid hK
          clear hK
          rw [if_pos (by rfl)]
          go_simp
          refine (isText37 _ _).mono ?_
          rintro e w1 ⟨rfl, rfl⟩
          rw [HB2.out]
          refine HK.out _ _ ⟨Or.inr hSd, ?_⟩
          clear HK
          try simp only [Act.put, List.setIfInBounds_toArray, List.set_cons_zero, List.set_cons_succ]
          refine sink_take1 (i := 9) (d := some 30) (v := ?_) rfl rfl (by kernel_rfl) (by decide) (by kernel_rfl) (by kernel_rfl) (fun _ _ _ h => h) (Or.inl ⟨by rfl, ?_⟩) hSd ?_
          rotate_left
          · intro wz hSw
            (try dsimp only at hSw)
            obtain ⟨q0, q1, q2⟩ := hSw
            go_simp
            (try with_reducible rfl)
          try simp only [Act.put, List.setIfInBounds_toArray, List.set_cons_zero, List.set_cons_succ]
          refine sink_take1 (i := 10) (d := some 31) (v := ?_) rfl rfl (by kernel_rfl) (by decide) (by kernel_rfl) (by kernel_rfl) (fun _ _ _ h => h) (Or.inl ⟨by rfl, ?_⟩) hSd ?_
          rotate_left
          · intro wz hSw
            (try dsimp only at hSw)
            obtain ⟨q0, q1, q2⟩ := hSw
            go_simp
            (try with_reducible rfl)
          try simp only [Act.put, List.setIfInBounds_toArray, List.set_cons_zero, List.set_cons_succ]
          refine sink_take1 (i := 11) (d := some 32) (v := ?_) rfl rfl (by kernel_rfl) (by decide) (by kernel_rfl) (by kernel_rfl) (fun _ _ _ h => h) (Or.inl ⟨by rfl, ?_⟩) hSd ?_
          rotate_left
          · intro wz hSw
            (try dsimp only at hSw)
            obtain ⟨q0, q1, q2⟩ := hSw
            go_simp
            (try with_reducible rfl)
          try simp only [Act.put, List.setIfInBounds_toArray, List.set_cons_zero, List.set_cons_succ]
          refine sink_take1 (i := 12) (d := some 33) (v := undef) rfl rfl (by kernel_rfl) (by decide) (by kernel_rfl) (by kernel_rfl) (fun _ _ _ h => h) (Or.inr ⟨by kernel_rfl, rfl⟩) hSd ?_
          try simp only [Act.put, List.setIfInBounds_toArray, List.set_cons_zero, List.set_cons_succ]
          refine sink_take1 (i := 13) (d := some 34) (v := undef) rfl rfl (by kernel_rfl) (by decide) (by kernel_rfl) (by kernel_rfl) (fun _ _ _ h => h) (Or.inr ⟨by kernel_rfl, rfl⟩) hSd ?_
          try simp only [Act.put, List.setIfInBounds_toArray, List.set_cons_zero, List.set_cons_succ]
          refine sink_take1 (i := 14) (d := some 35) (v := undef) rfl rfl (by kernel_rfl) (by decide) (by kernel_rfl) (by kernel_rfl) (fun _ _ _ h => h) (Or.inr ⟨by kernel_rfl, rfl⟩) hSd ?_
          try simp only [Act.put, List.setIfInBounds_toArray, List.set_cons_zero, List.set_cons_succ]
          refine sink_take1 (i := 15) (d := some 36) (v := undef) rfl rfl (by kernel_rfl) (by decide) (by kernel_rfl) (by kernel_rfl) (fun _ _ _ h => h) (Or.inr ⟨by kernel_rfl, rfl⟩) hSd ?_
          try simp only [Act.put, List.setIfInBounds_toArray, List.set_cons_zero, List.set_cons_succ]
          refine sink_take1 (i := 16) (d := some 37) (v := undef) rfl rfl (by kernel_rfl) (by decide) (by kernel_rfl) (by kernel_rfl) (fun _ _ _ h => h) (Or.inr ⟨by kernel_rfl, rfl⟩) hSd ?_
          try simp only [Act.put, List.setIfInBounds_toArray, List.set_cons_zero, List.set_cons_succ]
          refine sink_take1 (i := 17) (d := some 38) (v := ?_) rfl rfl (by kernel_rfl) (by decide) (by kernel_rfl) (by kernel_rfl) (fun _ _ _ h => h) (Or.inl ⟨by rfl, ?_⟩) hSd ?_
          rotate_left
          · intro wz hSw
            (try dsimp only at hSw)
            obtain ⟨q0, q1, q2⟩ := hSw
            go_simp
            (try with_reducible rfl)
          try simp only [Act.put, List.setIfInBounds_toArray, List.set_cons_zero, List.set_cons_succ]
          refine sink_done (by kernel_rfl) ?_
          clear hSd
          go_wp2
          rw [E1.out]
          go_ret
          exact ⟨rfl, HY.out.trans (((Below.refl _ _).drew).mono (HY.out.size))⟩
        case inl =>
          have E1 := Lib.hid (HQ.out (by rw [E0.out]; rfl))
          have hSd : (fun w' : World => w'.cell? ⟨wr.heap.size, 0, none⟩ = some (.int .i64 s1) ∧ w'.cell? ⟨wr.heap.size, 1, none⟩ = some (.string s2) ∧ Below w9.heap.size w9 w') (World.drew w9) := KS.out _ ((Below.refl _ _).drew)
          refine wp_region_sink (S := fun w' : World => w'.cell? ⟨wr.heap.size, 0, none⟩ = some (.int .i64 s1) ∧ w'.cell? ⟨wr.heap.size, 1, none⟩ = some (.string s2) ∧ Below w9.heap.size w9 w') (n := 1000) (by kernel_rfl) ?_
          change wpSink _ _ _ _ _ 1000 18 _ _ _
          refine sink_take1 (i := 0) (d := some 21) (v := ?_) rfl rfl (by kernel_rfl) (by decide) (by kernel_rfl) (by kernel_rfl) (fun _ _ _ h => h) (Or.inl ⟨by rfl, ?_⟩) hSd ?_
          rotate_left
          · intro wz hSw
            (try dsimp only at hSw)
            obtain ⟨q0, q1, q2⟩ := hSw
            go_simp
            (try with_reducible rfl)
          try simp only [Act.put, List.setIfInBounds_toArray, List.set_cons_zero, List.set_cons_succ]
          refine sink_take1 (i := 1) (d := some 22) (v := ?_) rfl rfl (by kernel_rfl) (by decide) (by kernel_rfl) (by kernel_rfl) (fun _ _ _ h => h) (Or.inl ⟨by rfl, ?_⟩) hSd ?_
          rotate_left
          · intro wz hSw
            (try dsimp only at hSw)
            obtain ⟨q0, q1, q2⟩ := hSw
            go_simp
            (try with_reducible rfl)
          try simp only [Act.put, List.setIfInBounds_toArray, List.set_cons_zero, List.set_cons_succ]
          refine sink_take1 (i := 2) (d := some 23) (v := ?_) rfl rfl (by kernel_rfl) (by decide) (by kernel_rfl) (by kernel_rfl) (fun _ _ _ h => h) (Or.inl ⟨by rfl, ?_⟩) hSd ?_
          rotate_left
          · intro wz hSw
            (try dsimp only at hSw)
            obtain ⟨q0, q1, q2⟩ := hSw
            go_simp
            (try with_reducible rfl)
          try simp only [Act.put, List.setIfInBounds_toArray, List.set_cons_zero, List.set_cons_succ]
          refine sink_one (i := 3) (by kernel_rfl) ?_
          refine wpOp_step rfl (fun K' hK => ?_)
          have HK := Lib.hid hK
          clear hK
          rw [if_pos (by rfl)]
          go_simp
          refine (mayStand36 _ _ _).mono ?_
          rintro e w1 ⟨rfl, rfl⟩
          rw [HB1.out]
          refine HK.out _ _ ⟨Or.inr hSd, ?_⟩
          clear HK
          try simp only [Act.put, List.setIfInBounds_toArray, List.set_cons_zero, List.set_cons_succ]
          refine sink_take1 (i := 4) (d := some 25) (v := ?_) rfl rfl (by kernel_rfl) (by decide) (by kernel_rfl) (by kernel_rfl) (fun _ _ _ h => h) (Or.inl ⟨by rfl, ?_⟩) hSd ?_
          rotate_left
          · intro wz hSw
            (try dsimp only at hSw)
            obtain ⟨q0, q1, q2⟩ := hSw
            go_simp
            (try with_reducible rfl)
          try simp only [Act.put, List.setIfInBounds_toArray, List.set_cons_zero, List.set_cons_succ]
          refine sink_take1 (i := 5) (d := some 26) (v := ?_) rfl rfl (by kernel_rfl) (by decide) (by kernel_rfl) (by kernel_rfl) (fun _ _ _ h => h) (Or.inl ⟨by rfl, ?_⟩) hSd ?_
          rotate_left
          · intro wz hSw
            (try dsimp only at hSw)
            obtain ⟨q0, q1, q2⟩ := hSw
            go_simp
            (try with_reducible rfl)
          try simp only [Act.put, List.setIfInBounds_toArray, List.set_cons_zero, List.set_cons_succ]
          refine sink_take1 (i := 6) (d := some 27) (v := undef) rfl rfl (by kernel_rfl) (by decide) (by kernel_rfl) (by kernel_rfl) (fun _ _ _ h => h) (Or.inr ⟨by kernel_rfl, rfl⟩) hSd ?_
          try simp only [Act.put, List.setIfInBounds_toArray, List.set_cons_zero, List.set_cons_succ]
          refine sink_take1 (i := 7) (d := some 28) (v := undef) rfl rfl (by kernel_rfl) (by decide) (by kernel_rfl) (by kernel_rfl) (fun _ _ _ h => h) (Or.inr ⟨by kernel_rfl, rfl⟩) hSd ?_
          try simp only [Act.put, List.setIfInBounds_toArray, List.set_cons_zero, List.set_cons_succ]
          refine sink_take1 (i := 8) (d := some 29) (v := undef) rfl rfl (by kernel_rfl) (by decide) (by kernel_rfl) (by kernel_rfl) (fun _ _ _ h => h) (Or.inr ⟨by kernel_rfl, rfl⟩) hSd ?_
          try simp only [Act.put, List.setIfInBounds_toArray, List.set_cons_zero, List.set_cons_succ]
          refine sink_take1 (i := 9) (d := some 30) (v := undef) rfl rfl (by kernel_rfl) (by decide) (by kernel_rfl) (by kernel_rfl) (fun _ _ _ h => h) (Or.inr ⟨by kernel_rfl, rfl⟩) hSd ?_
          try simp only [Act.put, List.setIfInBounds_toArray, List.set_cons_zero, List.set_cons_succ]
          refine sink_take1 (i := 10) (d := some 31) (v := ?_) rfl rfl (by kernel_rfl) (by decide) (by kernel_rfl) (by kernel_rfl) (fun _ _ _ h => h) (Or.inl ⟨by rfl, ?_⟩) hSd ?_
          rotate_left
          · intro wz hSw
            (try dsimp only at hSw)
            obtain ⟨q0, q1, q2⟩ := hSw
            go_simp
            (try with_reducible rfl)
          try simp only [Act.put, List.setIfInBounds_toArray, List.set_cons_zero, List.set_cons_succ]
          refine sink_take1 (i := 11) (d := some 32) (v := ?_) rfl rfl (by kernel_rfl) (by decide) (by kernel_rfl) (by kernel_rfl) (fun _ _ _ h => h) (Or.inl ⟨by rfl, ?_⟩) hSd ?_
          rotate_left
          · intro wz hSw
            (try dsimp only at hSw)
            obtain ⟨q0, q1, q2⟩ := hSw
            go_simp
            (try with_reducible rfl)
          try simp only [Act.put, List.setIfInBounds_toArray, List.set_cons_zero, List.set_cons_succ]
          refine sink_take1 (i := 12) (d := some 33) (v := undef) rfl rfl (by kernel_rfl) (by decide) (by kernel_rfl) (by kernel_rfl) (fun _ _ _ h => h) (Or.inr ⟨by kernel_rfl, rfl⟩) hSd ?_
          try simp only [Act.put, List.setIfInBounds_toArray, List.set_cons_zero, List.set_cons_succ]
          refine sink_take1 (i := 13) (d := some 34) (v := undef) rfl rfl (by kernel_rfl) (by decide) (by kernel_rfl) (by kernel_rfl) (fun _ _ _ h => h) (Or.inr ⟨by kernel_rfl, rfl⟩) hSd ?_
          try simp only [Act.put, List.setIfInBounds_toArray, List.set_cons_zero, List.set_cons_succ]
          refine sink_take1 (i := 14) (d := some 35) (v := undef) rfl rfl (by kernel_rfl) (by decide) (by kernel_rfl) (by kernel_rfl) (fun _ _ _ h => h) (Or.inr ⟨by kernel_rfl, rfl⟩) hSd ?_
          try simp only [Act.put, List.setIfInBounds_toArray, List.set_cons_zero, List.set_cons_succ]
          refine sink_take1 (i := 15) (d := some 36) (v := undef) rfl rfl (by kernel_rfl) (by decide) (by kernel_rfl) (by kernel_rfl) (fun _ _ _ h => h) (Or.inr ⟨by kernel_rfl, rfl⟩) hSd ?_
          try simp only [Act.put, List.setIfInBounds_toArray, List.set_cons_zero, List.set_cons_succ]
          refine sink_take1 (i := 16) (d := some 37) (v := undef) rfl rfl (by kernel_rfl) (by decide) (by kernel_rfl) (by kernel_rfl) (fun _ _ _ h => h) (Or.inr ⟨by kernel_rfl, rfl⟩) hSd ?_
          try simp only [Act.put, List.setIfInBounds_toArray, List.set_cons_zero, List.set_cons_succ]
          refine sink_take1 (i := 17) (d := some 38) (v := ?_) rfl rfl (by kernel_rfl) (by decide) (by kernel_rfl) (by kernel_rfl) (fun _ _ _ h => h) (Or.inl ⟨by rfl, ?_⟩) hSd ?_
          rotate_left
          · intro wz hSw
            (try dsimp only at hSw)
            obtain ⟨q0, q1, q2⟩ := hSw
            go_simp
            (try with_reducible rfl)
          try simp only [Act.put, List.setIfInBounds_toArray, List.set_cons_zero, List.set_cons_succ]
          refine sink_done (by kernel_rfl) ?_
          clear hSd
          go_wp2
          rw [E1.out]
          go_ret
          exact ⟨rfl, HY.out.trans (((Below.refl _ _).drew).mono (HY.out.size))⟩
      · obtain rfl : k = l.length := by omega
        have E1 := Lib.hid (rg_yes h8 HA.out)
        go_wp2
        rw [E1.out]
        go_ret
        exact ⟨rfl, HW.out⟩
  · have d1 : (8 : Int) < (l.length : Int) := by omega
    have e0 : rgB l = false := by rw [rgB, decide_eq_false h8]; rfl
    rw [e0]
    go_enter Tryz.func34, Tryz.ntmps34
    go_wp2
    go_ret
    exact ⟨rfl, Below.refl _ _⟩
end Go.Proofs.YtnnmbpghkflepaaGreatDoor
