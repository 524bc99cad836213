/-
  The text of a tree: addTree, Print.
-/
import Derived.Test.YtolklphenllhpaaPrn
namespace Go.Proofs.Ytolklphenllhpaa
open Go.RowKit Go.PlainAid
set_option maxRecDepth 100000

theorem byt_some {v : Value} {xs : List Int} {w : World} (h : Byt v xs w) (hx : xs ≠ []) : v.ownBlock ≠ none := by
  rcases h.2 with ⟨_, h0⟩ | ⟨g, cap, cur, rfl, _⟩
  · exact absurd (List.eq_nil_of_length_eq_zero h0) hx
  · intro e; cases e
theorem qt_size (s : Tx) : s.size ≤ (qtL s).length := by
  have h : ∀ l : List Int, l.length ≤ (l.flatMap escL).length := by
    intro l
    induction l with
    | nil => simp
    | cons c l ih =>
      rw [List.flatMap_cons, List.length_append, List.length_cons]
      have : 1 ≤ (escL c).length := by unfold escL; split <;> simp
      omega
  have := h (bs s)
  rw [bs_len] at this
  unfold qtL
  rw [List.length_cons, List.length_append, List.length_singleton]
  omega
theorem size_emp (s : Tx) : s.toList.isEmpty = decide (s.size = 0) := by
  rw [← size_nil]
  cases s.toList <;> rfl
/-- the row of a []byte is none of a tree's blocks -/
def Off (q : Nat → Prop) (v : Value) : Prop := ∀ g, v.ownBlock = some g → ¬ q g
theorem Off.grw {q : Nat → Prop} {w w' : World} {v v' : Value} (h : Off q v) (hg : Grw w w' v v') (hq : ∀ i, q i → i < w.heap.size) : Off q v' := fun g e hp => by
  rcases hg.own g e with e | e
  · exact h g e hp
  · have := hq g hp; omega
theorem TrW.grw {q : Nat → Prop} {w w' : World} {v v' x : Value} {t : Tr} (h : TrW q w x t) (hg : Grw w w' v v') (ho : Off q v) : TrW q w' x t :=
  h.frame (fun k hp hl => hg.kp.block k hl (fun e => ho k e hp))
/-- attributes as they are read, each block one of q's -/
def At (q : Nat → Prop) (w : World) (v : Value) (a : List Pr) : Prop := Ps w v a ∧ ∀ ad n c, v = .slice (some ad) n c → 0 < a.length → q ad.block
theorem At.grw {q : Nat → Prop} {w w' : World} {v v' x : Value} {a : List Pr} (h : At q w x a) (hg : Grw w w' v v') (ho : Off q v) : At q w' x a :=
  ⟨h.1.frame h.2 (fun k hp hl => hg.kp.block k hl (fun e => ho k e hp)), h.2⟩
theorem TrW.at_ {p : Nat → Prop} {w : World} {tag key text : Tx} {attrs : List Pr} {kids : List Tr} {v0 v1 v2 v3 v4 : Value} (h : TrW p w (.agg #[v0, v1, v2, v3, v4]) (.mk tag key text attrs kids)) : At p w v3 attrs := by
  cases h with
  | mk cv hb ha hap hc hk ht => exact ⟨ha, hap⟩
theorem atL_next {a : List Pr} {j : Nat} (h : j < a.length) : (a.take (j + 1)).flatMap atL = (a.take j).flatMap atL ++ atL (a.getD j default) := by
  rw [at_next h, List.flatMap_append]; simp
theorem atL_take (a : List Pr) (j : Nat) : ((a.take j).flatMap atL).length ≤ (a.flatMap atL).length := by
  conv => rhs; rw [← List.take_append_drop j a]
  rw [List.flatMap_append, List.length_append]
  omega
def keyL (k : Tx) : List Int := if k.size = 0 then [] else 35 :: qtL k

theorem wpList_bs {ops : Array Oper} {rest : List Oper} {o : Oper} {a : Act} {Q : Exit → Act → World → Prop} (w : World) (hgd : o.guard = none) (sl x : Operand)
    (ho : o.op = .call { callee := .builtin .append, args := #[sl, x], argTypes := #[42, 9] }) (v : Value) (xs : List Int) (hs : a.eval sl = v) (hown : Byt v xs w) (hv : v.ownBlock ≠ none)
    (s : Tx) (hx : a.eval x = .string s) (hn : xs.length ≤ 100000000) (hm1 : s.size ≤ 100000000)
    (h : ∀ v' w', Byt v' (xs ++ bs s) w' → Grw w w' v v' → wpList Try.prog ops Q rest (a.put o.dst v') w') : wpList Try.prog ops Q (o :: rest) a w :=
  wpList_plain hgd fun _ hK => wp_bs w sl x ho v xs hs hown hv s hx hn hm1 fun v' w' h1 h2 _ => hK _ _ (h v' w' h1 h2)
set_option maxHeartbeats 12800000 in
theorem addTree19 (n : Nat) : ∀ (q : Nat → Prop) (v vt : Value) (xs : List Int) (t : Tr) (w : World), t.cnt ≤ n → TrW q w vt t → (∀ k, q k → k < w.heap.size) → Off q v → Byt v xs w → xs.length + (prt t).length ≤ 1000000 →
    Calls Try.prog 19 #[v, vt] w (PrnP v (xs ++ prt t) w) := by
  induction n with
  | zero =>
    intro q v vt xs t w hz
    have := cnt_pos t
    omega
  | succ n ih =>
    intro q v vt xs t w hz h hq ho hb hl
    have IH := Lib.hid ih
    obtain ⟨g, k, x, a, ks, A1, l1, a1, K1, c1, rfl, rfl⟩ := h.parts
    rw [cnt_mk] at hz
    have SZ := Lib.hid hz
    obtain ⟨_, _, _, PA, hla, KA⟩ := h.ks
    obtain ⟨A', c', e1, _⟩ := PA
    cases e1
    obtain ⟨A'', c'', cv, e2, hlk, _⟩ := KA
    cases e2
    have hb0 := (Below.refl _ w).alloc (Nat.le_refl _) (.cells #[.string g, .string k, .string x, .slice A1 a.length a1, .slice K1 ks.length c1] 27 (0, 0))
    have X0 := Lib.hid (blk_new w (.cells #[.string g, .string k, .string x, .slice A1 a.length a1, .slice K1 ks.length c1] 27 (0, 0)))
    have O0 := Lib.hid (hb.below hb0)
    have T0 := Lib.hid (h.call hb0)
    have G0 := Lib.hid ((Grw.refl w v).below hb0)
    have QL : Hid (∀ i, q i → i < (w.alloc (.cells #[.string g, .string k, .string x, .slice A1 a.length a1, .slice K1 ks.length c1] 27 (0, 0))).heap.size) := fun k hk => Nat.lt_of_lt_of_le (hq k hk) hb0.size
    have VT : Hid (v.ownBlock ≠ some w.heap.size) := fun e => by have := hb.lt _ e; omega
    have OF := Lib.hid ho
    clear hb0 hb h ih hz ho hq
    by_cases eg : g.size = 0
    · have qg : (g.toList == []) = true := by rw [size_nil]; exact decide_eq_true eg
      have E : Hid (prt (.mk g k x a ks) = qtL x) := by rw [Hid, prt_mk, if_pos eg]
      have hxs : x.size ≤ 1000000 := by
        have := qt_size x
        rw [E.out] at hl
        omega
      have hxl : xs.length ≤ 1000000 := by omega
      clear eg hl
      go_enter Try.func19, Try.ntmps19
      go_upto_region 2 with fail
      generalize w.alloc _ = w1 at *
      have x2 := blk_cell X0.out 2
      simp at x2
      go_wp2_with fail
      refine (addText28 v xs x w1 O0.out (by omega) hxs).mono ?_
      rintro e w2 ⟨v2, rfl, h2, g2⟩
      have G2 := G0.out.trans g2
      rw [← E.out] at h2
      clear g2 E
      go_wp2_with fail
      go_ret
      exact ⟨_, rfl, h2, G2⟩
    · have qg : (g.toList == []) = false := by rw [size_nil]; exact decide_eq_false eg
      have E : Hid (prt (.mk g k x a ks) = 60 :: bs g ++ keyL k ++ a.flatMap atL ++ [62] ++ prtL ks ++ [60, 47, 62]) := by
        rw [Hid, prt_mk, if_neg eg]; unfold hdL keyL; simp
      have hl2 : xs.length + (1 + g.size + (keyL k).length + (a.flatMap atL).length + 1 + (prtL ks).length + 3) ≤ 1000000 := by
        rw [E.out] at hl
        simp only [List.length_append, List.length_cons, List.length_nil, bs_len] at hl
        omega
      clear eg hl
      go_enter Try.func19, Try.ntmps19
      go_upto_region 3 with fail
      generalize w.alloc _ = w1 at *
      have SH : Hid (∀ W, Kp (fun i => v.ownBlock = some i) w1 W → W.cell? ⟨w.heap.size, 0, none⟩ = some (.string g) ∧ W.cell? ⟨w.heap.size, 1, none⟩ = some (.string k) ∧ W.cell? ⟨w.heap.size, 2, none⟩ = some (.string x) ∧ W.cell? ⟨w.heap.size, 3, none⟩ = some (.slice A1 a.length a1) ∧ W.cell? ⟨w.heap.size, 4, none⟩ = some (.slice K1 ks.length c1)) := by
        intro W hW
        have hx := (hW.block w.heap.size (blk_lt X0.out) VT.out).trans X0.out
        refine ⟨?_, ?_, ?_, ?_, ?_⟩ <;> rw [blk_cell hx] <;> rfl
      refine wp_region_ordN 6 ((true, 0) :: (true, 3) :: (true, 4) :: (false, 1) :: (false, 2) :: (false, 5) :: (false, 6) :: []) (fun W => Kp (fun k => v.ownBlock = some k) w1 W) (by kernel_rfl) (by kernel_rfl) (by decide) (by kernel_rfl) (fun d _ _ _ _ h => by cases d <;> exact h) ((Kp.refl _ w1).drew) ?_
      refine ordn_q (d := some 16) (v := ?_) rfl rfl (Or.inl ⟨by rfl, ?_⟩) ?_
      rotate_left
      · intro wz hSw
        obtain ⟨x0, x1, x2, x3, x4⟩ := SH.out wz hSw
        go_simp
        (try with_reducible rfl)
      try simp only [Act.put, List.setIfInBounds_toArray, List.set_cons_zero, List.set_cons_succ]
      refine ordn_q (d := some 19) (v := ?_) rfl rfl (Or.inl ⟨by rfl, ?_⟩) ?_
      rotate_left
      · intro wz hSw
        obtain ⟨x0, x1, x2, x3, x4⟩ := SH.out wz hSw
        go_simp
        (try with_reducible rfl)
      try simp only [Act.put, List.setIfInBounds_toArray, List.set_cons_zero, List.set_cons_succ]
      refine ordn_q (d := some 20) (v := ?_) rfl rfl (Or.inl ⟨by rfl, ?_⟩) ?_
      rotate_left
      · intro wz hSw
        obtain ⟨x0, x1, x2, x3, x4⟩ := SH.out wz hSw
        go_simp
        (try with_reducible rfl)
      try simp only [Act.put, List.setIfInBounds_toArray, List.set_cons_zero, List.set_cons_succ]
      refine ordn_l ?_
      refine wpOp_step rfl (fun K' hK => ?_)
      have HK := Lib.hid hK
      clear hK
      rw [if_pos (by rfl)]
      go_simp
      have OA3 : Hid (Byt v xs (w1.alloc (.cells #[.int .u8 60] 5 (0, 0))).drew) := (O0.out.below ((Below.refl _ w1).alloc (Nat.le_refl _) (.cells #[.int .u8 60] 5 (0, 0)))).below (Below.refl _ _).drew
      have GA3 : Hid (Grw w1 (w1.alloc (.cells #[.int .u8 60] 5 (0, 0))).drew v v) := ((Grw.refl w1 v).below ((Below.refl _ w1).alloc (Nat.le_refl _) (.cells #[.int .u8 60] 5 (0, 0)))).below (Below.refl _ _).drew
      have NB3 : Hid ((w1.alloc (.cells #[.int .u8 60] 5 (0, 0))).drew.heap[w1.heap.size]? = some (.cells #[.int .u8 60] 5 (0, 0))) := blk_new w1 _
      generalize (w1.alloc _).drew = wa3 at *
      refine HK.out _ _ ⟨GA3.out.kp, ?_⟩
      clear HK
      try change OrdN _ _ _ _ _ _ (Act.put _ (some 17) _) _
      try simp only [Act.put, List.setIfInBounds_toArray, List.set_cons_zero, List.set_cons_succ]
      refine ordn_l ?_
      refine wpOp_step rfl (fun K' hK => ?_)
      have HK := Lib.hid hK
      clear hK
      rw [if_pos (by rfl)]
      refine wp_b wa3 _ _ rfl v xs rfl OA3.out _ 1 1 [60] rfl rfl NB3.out (by omega) (by omega) ?_
      intro vb3 wb3 hb3 gb3
      have OB3 := Lib.hid hb3
      have GB3 := Lib.hid (GA3.out.trans gb3)
      clear hb3 gb3 OA3 GA3 NB3
      refine HK.out _ _ ⟨GB3.out.kp, ?_⟩
      clear HK
      try change OrdN _ _ _ _ _ _ (Act.put _ (some 18) _) _
      try simp only [Act.put, List.setIfInBounds_toArray, List.set_cons_zero, List.set_cons_succ]
      refine ordn_l ?_
      refine wpOp_step rfl (fun K' hK => ?_)
      have HK := Lib.hid hK
      clear hK
      rw [if_pos (by rfl)]
      refine wp_bs wb3 _ _ rfl vb3 (xs ++ [60]) rfl OB3.out (byt_some OB3.out (by simp)) g rfl (by rw [List.length_append, List.length_singleton]; omega) (by omega) ?_
      intro vc3 wc3 hc3 gc3 _
      have OC3 := Lib.hid hc3
      have GC3 := Lib.hid (GB3.out.trans gc3)
      clear hc3 gc3 OB3 GB3
      refine HK.out _ _ ⟨GC3.out.kp, ?_⟩
      clear HK
      try change OrdN _ _ _ _ _ _ (Act.put _ (some 21) _) _
      try simp only [Act.put, List.setIfInBounds_toArray, List.set_cons_zero, List.set_cons_succ]
      refine ordn_last ?_
      refine wpOp_step rfl (fun K' hK => ?_)
      have HK := Lib.hid hK
      clear hK
      rw [if_pos (by rfl)]
      go_simp
      refine HK.out _ _ ?_
      clear HK
      try simp only [Act.put, List.setIfInBounds_toArray, List.set_cons_zero, List.set_cons_succ]
      clear SH
      have EQ : Hid (xs ++ prt (.mk g k x a ks) = (xs ++ [60] ++ bs g) ++ keyL k ++ a.flatMap atL ++ [62] ++ prtL ks ++ [60, 47, 62]) := by
        rw [Hid, E.out]; simp
      have HY : Hid ((xs ++ [60] ++ bs g).length + (keyL k).length + (a.flatMap atL).length + (prtL ks).length + 4 ≤ 1000000) := by
        show _ ≤ _
        simp only [List.length_append, List.length_cons, List.length_nil, bs_len]
        omega
      clear E hl2
      generalize xs ++ [60] ++ bs g = y3 at *
      obtain ⟨hX3, hV3⟩ := GC3.out.blk X0.out VT.out
      have X3 := Lib.hid hX3
      have V3 := Lib.hid hV3
      clear hX3 hV3
      generalize vc3 = v3 at *
      generalize wc3 = w3 at *
      have y1 := blk_cell X3.out 1
      simp at y1
      go_upto_if 24 with fail
      clear y1
      go_cut [0] (fun p0 wz => Hid (Byt p0 (y3 ++ keyL k) wz) ∧ Hid (Grw w1 wz v p0))
      case first =>
        have y1 := blk_cell X3.out 1
        simp at y1
        by_cases ek : k.size = 0
        · have qk : (!k.toList.isEmpty) = false := by rw [size_emp, decide_eq_true ek]; rfl
          have KE : Hid (keyL k = []) := if_pos ek
          rw [qk]
          clear ek
          go_wp2_with fail
          go_meet
          exact ⟨by rw [KE.out, List.append_nil]; exact OC3.out, GC3.out⟩
        · have qk : (!k.toList.isEmpty) = true := by rw [size_emp, decide_eq_false ek]; rfl
          have KE : Hid (keyL k = 35 :: qtL k) := if_neg ek
          rw [qk]
          have hk : k.size ≤ 1000000 := by
            have h1 := qt_size k
            have h2 := HY.out
            rw [KE.out, List.length_cons] at h2
            omega
          have hy : y3.length ≤ 1000000 := by have := HY.out; omega
          clear ek
          go_upto_region 5 with fail
          have SH : Hid (∀ W, Kp (fun i => v3.ownBlock = some i) w3 W → W.cell? ⟨w.heap.size, 1, none⟩ = some (.string k)) := by
            intro W hW
            have hx := (hW.block w.heap.size (blk_lt X3.out) V3.out).trans X3.out
            rw [blk_cell hx]; rfl
          clear y1
          refine wp_region_ordN 6 ((true, 0) :: (true, 3) :: (true, 4) :: (false, 1) :: (false, 2) :: (false, 5) :: (false, 6) :: []) (fun W => Kp (fun k => v3.ownBlock = some k) w3 W) (by kernel_rfl) (by kernel_rfl) (by decide) (by kernel_rfl) (fun d _ _ _ _ h => by cases d <;> exact h) ((Kp.refl _ w3).drew) ?_
          refine ordn_q (d := some 25) (v := ?_) rfl rfl (Or.inl ⟨by rfl, ?_⟩) ?_
          rotate_left
          · intro wz hSw
            have x1 := SH.out wz hSw
            go_simp
            (try with_reducible rfl)
          try simp only [Act.put, List.setIfInBounds_toArray, List.set_cons_zero, List.set_cons_succ]
          refine ordn_q (d := some 28) (v := ?_) rfl rfl (Or.inl ⟨by rfl, ?_⟩) ?_
          rotate_left
          · intro wz hSw
            have x1 := SH.out wz hSw
            go_simp
            (try with_reducible rfl)
          try simp only [Act.put, List.setIfInBounds_toArray, List.set_cons_zero, List.set_cons_succ]
          refine ordn_q (d := some 29) (v := ?_) rfl rfl (Or.inl ⟨by rfl, ?_⟩) ?_
          rotate_left
          · intro wz hSw
            have x1 := SH.out wz hSw
            go_simp
            (try with_reducible rfl)
          try simp only [Act.put, List.setIfInBounds_toArray, List.set_cons_zero, List.set_cons_succ]
          refine ordn_l ?_
          refine wpOp_step rfl (fun K' hK => ?_)
          have HK := Lib.hid hK
          clear hK
          rw [if_pos (by rfl)]
          go_simp
          have OA5 : Hid (Byt v3 y3 (w3.alloc (.cells #[.int .u8 35] 5 (0, 0))).drew) := (OC3.out.below ((Below.refl _ w3).alloc (Nat.le_refl _) (.cells #[.int .u8 35] 5 (0, 0)))).below (Below.refl _ _).drew
          have GA5 : Hid (Grw w3 (w3.alloc (.cells #[.int .u8 35] 5 (0, 0))).drew v3 v3) := ((Grw.refl w3 v3).below ((Below.refl _ w3).alloc (Nat.le_refl _) (.cells #[.int .u8 35] 5 (0, 0)))).below (Below.refl _ _).drew
          have NB5 : Hid ((w3.alloc (.cells #[.int .u8 35] 5 (0, 0))).drew.heap[w3.heap.size]? = some (.cells #[.int .u8 35] 5 (0, 0))) := blk_new w3 _
          generalize (w3.alloc _).drew = wa5 at *
          refine HK.out _ _ ⟨GA5.out.kp, ?_⟩
          clear HK
          try change OrdN _ _ _ _ _ _ (Act.put _ (some 26) _) _
          try simp only [Act.put, List.setIfInBounds_toArray, List.set_cons_zero, List.set_cons_succ]
          refine ordn_l ?_
          refine wpOp_step rfl (fun K' hK => ?_)
          have HK := Lib.hid hK
          clear hK
          rw [if_pos (by rfl)]
          refine wp_b wa5 _ _ rfl v3 y3 rfl OA5.out _ 1 1 [35] rfl rfl NB5.out (by omega) (by omega) ?_
          intro vb5 wb5 hb5 gb5
          have OB5 := Lib.hid hb5
          have GB5 := Lib.hid (GA5.out.trans gb5)
          clear hb5 gb5 OA5 GA5 NB5
          refine HK.out _ _ ⟨GB5.out.kp, ?_⟩
          clear HK
          try change OrdN _ _ _ _ _ _ (Act.put _ (some 27) _) _
          try simp only [Act.put, List.setIfInBounds_toArray, List.set_cons_zero, List.set_cons_succ]
          refine ordn_l ?_
          refine wpOp_step rfl (fun K' hK => ?_)
          have HK := Lib.hid hK
          clear hK
          rw [if_pos (by rfl)]
          go_simp
          refine (addText28 vb5 (y3 ++ [35]) k wb5 OB5.out (by rw [List.length_append, List.length_singleton]; omega) (by omega)).mono ?_
          rintro e wc5 ⟨vc5, rfl, hc5, gc5⟩
          have OC5 := Lib.hid hc5
          have GC5 := Lib.hid (GB5.out.trans gc5)
          clear hc5 gc5 OB5 GB5
          refine HK.out _ _ ⟨GC5.out.kp, ?_⟩
          clear HK
          try change OrdN _ _ _ _ _ _ (Act.put _ (some 30) _) _
          try simp only [Act.put, List.setIfInBounds_toArray, List.set_cons_zero, List.set_cons_succ]
          refine ordn_last ?_
          refine wpOp_step rfl (fun K' hK => ?_)
          have HK := Lib.hid hK
          clear hK
          rw [if_pos (by rfl)]
          go_simp
          refine HK.out _ _ ?_
          clear HK
          try simp only [Act.put, List.setIfInBounds_toArray, List.set_cons_zero, List.set_cons_succ]
          clear SH
          have G5 := Lib.hid (GC3.out.trans GC5.out)
          have O5 : Hid (Byt vc5 (y3 ++ keyL k) wc5) := by
            have := OC5.out
            rw [List.append_assoc] at this
            rw [Hid, KE.out]
            exact this
          go_wp2_with fail
          go_meet
          exact ⟨O5.out, G5.out⟩
      case rest =>
        obtain ⟨O4, G4⟩ := hcut
        clear X3 V3 OC3 GC3
        have HY4 : Hid ((y3 ++ keyL k).length + (a.flatMap atL).length + (prtL ks).length + 4 ≤ 1000000) := by
          have := HY.out
          show _ ≤ _
          rw [List.length_append]
          omega
        clear HY
        generalize y3 ++ keyL k = y4 at *
        have TA := Lib.hid ((T0.out.grw G4.out OF.out))
        have hlt : Hid (∀ i, q i → i < wc.heap.size) := fun i hi => Nat.lt_of_lt_of_le (QL.out i hi) G4.out.kp.size
        obtain ⟨hX4, hV4⟩ := G4.out.blk X0.out VT.out
        have OF4 := Lib.hid (OF.out.grw G4.out QL.out)
        have x3 := blk_cell hX4 3
        simp at x3
        have X4 := Lib.hid hX4
        have V4 := Lib.hid hV4
        clear hX4 hV4
        go_wp2_with fail
        clear x3
        go_loopw [0, 34] (fun p0 p34 wr => ∃ (j : Nat), j ≤ a.length ∧ p34 = .int .i64 j ∧ Hid (Byt p0 (y4 ++ (a.take j).flatMap atL) wr) ∧ Hid (Grw w1 wr v p0)) (fun _ p _ => a.length - (intOf p).toNat)
        case atStart => exact ⟨0, Nat.zero_le _, rfl, by rw [List.take_zero, List.flatMap_nil, List.append_nil]; exact O4.out, G4.out⟩
        case round =>
          obtain ⟨j, hj, rfl, HO, HG⟩ := hrel
          clear TA hlt OF4 X4 V4 O4 G4
          by_cases hlt : j < a.length
          · have d0 : (j : Int) < (a.length : Int) := by omega
            obtain ⟨⟨A9, c9, e9, _, _, hc9⟩, hq9⟩ := T0.out.at_
            cases e9
            obtain ⟨b9, o9, rfl, k0, k1⟩ := hc9 j hlt
            have hqb := hq9 _ _ _ rfl (by omega)
            have gc : ∀ (o : Nat) (u : Value), w1.cell? ⟨b9, o, none⟩ = some u → wr.cell? ⟨b9, o, none⟩ = some u := fun o u hc => by
              rw [HG.out.kp.cell (World.block_lt_of_cell? w1 _ hc) (fun e => OF.out _ e hqb)]
              exact hc
            replace k0 := gc _ _ k0
            replace k1 := gc _ _ k1
            have AN := Lib.hid (atL_next hlt)
            have AT := atL_take a (j + 1)
            rw [AN.out, List.length_append] at AT
            have HL := HY4.out
            have hys : (y4 ++ (a.take j).flatMap atL).length ≤ 1000000 := by rw [List.length_append]; omega
            clear gc hc9 hq9 hqb
            generalize a.getD j default = p at *
            obtain ⟨s, t⟩ := p
            simp only at k0 k1
            have hs1 : s.size ≤ 1000000 := by
              have := qt_size s
              simp only [atL, List.length_append, List.length_cons] at AT
              omega
            have hs2 : t.size ≤ 1000000 := by
              have := qt_size t
              simp only [atL, List.length_append, List.length_cons] at AT
              omega
            have hys2 : (y4 ++ (a.take j).flatMap atL ++ [32] ++ qtL s).length ≤ 1000000 := by
              rw [List.length_append] at hys
              simp only [atL, List.length_append, List.length_cons, List.length_nil] at AT ⊢
              omega
            have YN : Hid (y4 ++ (a.take (j + 1)).flatMap atL = y4 ++ (a.take j).flatMap atL ++ [32] ++ qtL s ++ [61] ++ qtL t) := by rw [Hid, AN.out]; simp [atL]
            clear AN AT HL
            generalize y4 ++ (a.take j).flatMap atL = ys at *
            have hbx := (Below.refl _ wr).alloc (Nat.le_refl _) (.cells #[.string s, .string t] 23 (0, 0))
            have XB := Lib.hid (blk_new wr (.cells #[.string s, .string t] 23 (0, 0)))
            have OB := Lib.hid (HO.out.below hbx)
            have GB := Lib.hid (HG.out.below hbx)
            have VB : Hid (u0.ownBlock ≠ some wr.heap.size) := fun e => by have := HO.out.lt _ e; omega
            clear hbx HO HG
            go_upto_region 9 with fail
            clear k0 k1
            generalize wr.alloc _ = wb at *
            have SH : Hid (∀ W, Kp (fun i => u0.ownBlock = some i) wb W → W.cell? ⟨wr.heap.size, 0, none⟩ = some (.string s)) := by
              intro W hW
              have hx := (hW.block wr.heap.size (blk_lt XB.out) VB.out).trans XB.out
              rw [blk_cell hx]; rfl
            refine wp_region_ordN 6 ((true, 0) :: (true, 3) :: (true, 4) :: (false, 1) :: (false, 2) :: (false, 5) :: (false, 6) :: []) (fun W => Kp (fun k => u0.ownBlock = some k) wb W) (by kernel_rfl) (by kernel_rfl) (by decide) (by kernel_rfl) (fun d _ _ _ _ h => by cases d <;> exact h) ((Kp.refl _ wb).drew) ?_
            refine ordn_q (d := some 38) (v := ?_) rfl rfl (Or.inl ⟨by rfl, ?_⟩) ?_
            rotate_left
            · intro wz hSw
              have x1 := SH.out wz hSw
              go_simp
              (try with_reducible rfl)
            try simp only [Act.put, List.setIfInBounds_toArray, List.set_cons_zero, List.set_cons_succ]
            refine ordn_q (d := some 41) (v := ?_) rfl rfl (Or.inl ⟨by rfl, ?_⟩) ?_
            rotate_left
            · intro wz hSw
              have x1 := SH.out wz hSw
              go_simp
              (try with_reducible rfl)
            try simp only [Act.put, List.setIfInBounds_toArray, List.set_cons_zero, List.set_cons_succ]
            refine ordn_q (d := some 42) (v := ?_) rfl rfl (Or.inl ⟨by rfl, ?_⟩) ?_
            rotate_left
            · intro wz hSw
              have x1 := SH.out wz hSw
              go_simp
              (try with_reducible rfl)
            try simp only [Act.put, List.setIfInBounds_toArray, List.set_cons_zero, List.set_cons_succ]
            refine ordn_l ?_
            refine wpOp_step rfl (fun K' hK => ?_)
            have HK := Lib.hid hK
            clear hK
            rw [if_pos (by rfl)]
            go_simp
            have OA9 : Hid (Byt u0 ys (wb.alloc (.cells #[.int .u8 32] 5 (0, 0))).drew) := (OB.out.below ((Below.refl _ wb).alloc (Nat.le_refl _) (.cells #[.int .u8 32] 5 (0, 0)))).below (Below.refl _ _).drew
            have GA9 : Hid (Grw wb (wb.alloc (.cells #[.int .u8 32] 5 (0, 0))).drew u0 u0) := ((Grw.refl wb u0).below ((Below.refl _ wb).alloc (Nat.le_refl _) (.cells #[.int .u8 32] 5 (0, 0)))).below (Below.refl _ _).drew
            have NB9 : Hid ((wb.alloc (.cells #[.int .u8 32] 5 (0, 0))).drew.heap[wb.heap.size]? = some (.cells #[.int .u8 32] 5 (0, 0))) := blk_new wb _
            generalize (wb.alloc _).drew = wa9 at *
            refine HK.out _ _ ⟨GA9.out.kp, ?_⟩
            clear HK
            try change OrdN _ _ _ _ _ _ (Act.put _ (some 39) _) _
            try simp only [Act.put, List.setIfInBounds_toArray, List.set_cons_zero, List.set_cons_succ]
            refine ordn_l ?_
            refine wpOp_step rfl (fun K' hK => ?_)
            have HK := Lib.hid hK
            clear hK
            rw [if_pos (by rfl)]
            refine wp_b wa9 _ _ rfl u0 ys rfl OA9.out _ 1 1 [32] rfl rfl NB9.out (by omega) (by omega) ?_
            intro vb9 wb9 hb9 gb9
            have OB9 := Lib.hid hb9
            have GB9 := Lib.hid (GA9.out.trans gb9)
            clear hb9 gb9 OA9 GA9 NB9
            refine HK.out _ _ ⟨GB9.out.kp, ?_⟩
            clear HK
            try change OrdN _ _ _ _ _ _ (Act.put _ (some 40) _) _
            try simp only [Act.put, List.setIfInBounds_toArray, List.set_cons_zero, List.set_cons_succ]
            refine ordn_l ?_
            refine wpOp_step rfl (fun K' hK => ?_)
            have HK := Lib.hid hK
            clear hK
            rw [if_pos (by rfl)]
            go_simp
            refine (addText28 vb9 (ys ++ [32]) s wb9 OB9.out (by rw [List.length_append, List.length_singleton]; omega) (by omega)).mono ?_
            rintro e wc9 ⟨vc9, rfl, hc9, gc9⟩
            have OC9 := Lib.hid hc9
            have GC9 := Lib.hid (GB9.out.trans gc9)
            clear hc9 gc9 OB9 GB9
            refine HK.out _ _ ⟨GC9.out.kp, ?_⟩
            clear HK
            try change OrdN _ _ _ _ _ _ (Act.put _ (some 43) _) _
            try simp only [Act.put, List.setIfInBounds_toArray, List.set_cons_zero, List.set_cons_succ]
            refine ordn_last ?_
            refine wpOp_step rfl (fun K' hK => ?_)
            have HK := Lib.hid hK
            clear hK
            rw [if_pos (by rfl)]
            go_simp
            refine HK.out _ _ ?_
            clear HK
            try simp only [Act.put, List.setIfInBounds_toArray, List.set_cons_zero, List.set_cons_succ]
            clear SH
            obtain ⟨hX9, hV9⟩ := GC9.out.blk XB.out VB.out
            have GB9 := Lib.hid (GB.out.trans GC9.out)
            have SH : Hid (∀ W, Kp (fun i => vc9.ownBlock = some i) wc9 W → W.cell? ⟨wr.heap.size, 1, none⟩ = some (.string t)) := by
              intro W hW
              have hx := (hW.block wr.heap.size (blk_lt hX9) hV9).trans hX9
              rw [blk_cell hx]; rfl
            clear hX9 hV9 OB GB GC9 XB VB
            generalize hz : ys ++ [32] ++ qtL s = zs at *
            go_upto_region 10 with fail
            refine wp_region_ordN 6 ((true, 0) :: (true, 3) :: (true, 4) :: (false, 1) :: (false, 2) :: (false, 5) :: (false, 6) :: []) (fun W => Kp (fun k => vc9.ownBlock = some k) wc9 W) (by kernel_rfl) (by kernel_rfl) (by decide) (by kernel_rfl) (fun d _ _ _ _ h => by cases d <;> exact h) ((Kp.refl _ wc9).drew) ?_
            refine ordn_q (d := some 44) (v := ?_) rfl rfl (Or.inl ⟨by rfl, ?_⟩) ?_
            rotate_left
            · intro wz hSw
              have x1 := SH.out wz hSw
              go_simp
              (try with_reducible rfl)
            try simp only [Act.put, List.setIfInBounds_toArray, List.set_cons_zero, List.set_cons_succ]
            refine ordn_q (d := some 47) (v := ?_) rfl rfl (Or.inl ⟨by rfl, ?_⟩) ?_
            rotate_left
            · intro wz hSw
              have x1 := SH.out wz hSw
              go_simp
              (try with_reducible rfl)
            try simp only [Act.put, List.setIfInBounds_toArray, List.set_cons_zero, List.set_cons_succ]
            refine ordn_q (d := some 48) (v := ?_) rfl rfl (Or.inl ⟨by rfl, ?_⟩) ?_
            rotate_left
            · intro wz hSw
              have x1 := SH.out wz hSw
              go_simp
              (try with_reducible rfl)
            try simp only [Act.put, List.setIfInBounds_toArray, List.set_cons_zero, List.set_cons_succ]
            refine ordn_l ?_
            refine wpOp_step rfl (fun K' hK => ?_)
            have HK := Lib.hid hK
            clear hK
            rw [if_pos (by rfl)]
            go_simp
            have OA10 : Hid (Byt vc9 zs (wc9.alloc (.cells #[.int .u8 61] 5 (0, 0))).drew) := (OC9.out.below ((Below.refl _ wc9).alloc (Nat.le_refl _) (.cells #[.int .u8 61] 5 (0, 0)))).below (Below.refl _ _).drew
            have GA10 : Hid (Grw wc9 (wc9.alloc (.cells #[.int .u8 61] 5 (0, 0))).drew vc9 vc9) := ((Grw.refl wc9 vc9).below ((Below.refl _ wc9).alloc (Nat.le_refl _) (.cells #[.int .u8 61] 5 (0, 0)))).below (Below.refl _ _).drew
            have NB10 : Hid ((wc9.alloc (.cells #[.int .u8 61] 5 (0, 0))).drew.heap[wc9.heap.size]? = some (.cells #[.int .u8 61] 5 (0, 0))) := blk_new wc9 _
            generalize (wc9.alloc _).drew = wa10 at *
            refine HK.out _ _ ⟨GA10.out.kp, ?_⟩
            clear HK
            try change OrdN _ _ _ _ _ _ (Act.put _ (some 45) _) _
            try simp only [Act.put, List.setIfInBounds_toArray, List.set_cons_zero, List.set_cons_succ]
            refine ordn_l ?_
            refine wpOp_step rfl (fun K' hK => ?_)
            have HK := Lib.hid hK
            clear hK
            rw [if_pos (by rfl)]
            refine wp_b wa10 _ _ rfl vc9 zs rfl OA10.out _ 1 1 [61] rfl rfl NB10.out (by omega) (by omega) ?_
            intro vb10 wb10 hb10 gb10
            have OB10 := Lib.hid hb10
            have GB10 := Lib.hid (GA10.out.trans gb10)
            clear hb10 gb10 OA10 GA10 NB10
            refine HK.out _ _ ⟨GB10.out.kp, ?_⟩
            clear HK
            try change OrdN _ _ _ _ _ _ (Act.put _ (some 46) _) _
            try simp only [Act.put, List.setIfInBounds_toArray, List.set_cons_zero, List.set_cons_succ]
            refine ordn_l ?_
            refine wpOp_step rfl (fun K' hK => ?_)
            have HK := Lib.hid hK
            clear hK
            rw [if_pos (by rfl)]
            go_simp
            refine (addText28 vb10 (zs ++ [61]) t wb10 OB10.out (by rw [List.length_append, List.length_singleton]; omega) (by omega)).mono ?_
            rintro e wc10 ⟨vc10, rfl, hc10, gc10⟩
            have OC10 := Lib.hid hc10
            have GC10 := Lib.hid (GB10.out.trans gc10)
            clear hc10 gc10 OB10 GB10
            refine HK.out _ _ ⟨GC10.out.kp, ?_⟩
            clear HK
            try change OrdN _ _ _ _ _ _ (Act.put _ (some 49) _) _
            try simp only [Act.put, List.setIfInBounds_toArray, List.set_cons_zero, List.set_cons_succ]
            refine ordn_last ?_
            refine wpOp_step rfl (fun K' hK => ?_)
            have HK := Lib.hid hK
            clear hK
            rw [if_pos (by rfl)]
            go_simp
            refine HK.out _ _ ?_
            clear HK
            try simp only [Act.put, List.setIfInBounds_toArray, List.set_cons_zero, List.set_cons_succ]
            clear SH
            have G11 := Lib.hid (GB9.out.trans GC10.out)
            have O11 : Hid (Byt vc10 (y4 ++ (a.take (j + 1)).flatMap atL) wc10) := by
              rw [Hid, YN.out]; exact OC10.out
            clear GB9 GC10 OC10 YN OC9
            go_wp2_with fail
            go_roundw
            case rel => exact ⟨j + 1, by omega, by go_num, O11, G11⟩
            case measure => simp [intOf]; omega
          · obtain rfl : j = a.length := by omega
            rw [List.take_length] at HO
            have hy5 : (y4 ++ a.flatMap atL).length ≤ 1000000 := by have := HY4.out; rw [List.length_append]; omega
            have HY5 : Hid ((y4 ++ a.flatMap atL ++ [62]).length + (prtL ks).length + 3 ≤ 1000000) := by
              have := HY4.out
              show _ ≤ _
              simp only [List.length_append, List.length_cons, List.length_nil]
              omega
            have EQ5 : Hid (xs ++ prt (.mk g k x a ks) = (y4 ++ a.flatMap atL ++ [62]) ++ prtL ks ++ [60, 47, 62]) := EQ.out
            clear EQ HY4
            generalize y4 ++ a.flatMap atL = y5 at *
            have hbx := (Below.refl _ wr).alloc (Nat.le_refl _) (.cells #[.int .u8 62] 5 (0, 0))
            have O5 := Lib.hid (HO.out.below hbx)
            have G5 := Lib.hid (HG.out.below hbx)
            clear hbx HO HG
            go_wp2_with (at_builtin; go_loud (refine wpList_b _ rfl _ _ rfl u0 _ rfl O5.out wr.heap.size 1 1 [62] rfl rfl (blk_new wr _) (by omega) (by omega) ?_))
            intro v6 w6 h6 g6
            have O6 := Lib.hid h6
            have G6 := Lib.hid (G5.out.trans g6)
            clear h6 g6 O5 G5
            have hX6 := (G6.out.blk X0.out VT.out).1
            have x4 := blk_cell hX6 4
            simp at x4
            clear hX6
            obtain ⟨_, _, _, _, _, KS⟩ := T0.out.ks
            obtain ⟨A4, c4, cv4, e4, _, hk4, ht4⟩ := KS
            cases e4
            have HK := Lib.hid hk4
            have HT := Lib.hid ht4
            clear hk4 ht4
            go_wp2_with fail
            clear x4
            have NE : Hid (∀ l, y5 ++ [62] ++ prtL l ≠ []) := fun l => by simp
            generalize y5 ++ [62] = y6 at *
            go_loopw [0, 57] (fun p0 p57 wr => ∃ (j : Nat), j ≤ ks.length ∧ p57 = .int .i64 j ∧ Hid (Byt p0 (y6 ++ prtL (ks.take j)) wr) ∧ Hid (Grw w1 wr v p0)) (fun _ p _ => ks.length - (intOf p).toNat)
            case atStart => exact ⟨0, Nat.zero_le _, rfl, by rw [List.take_zero, prtL, List.append_nil]; exact O6.out, G6.out⟩
            case round =>
              obtain ⟨j, hj, rfl, HO, HG⟩ := hrel
              clear O6 G6
              by_cases hlt : j < ks.length
              · have d0 : (j : Int) < (ks.length : Int) := by omega
                obtain ⟨b1, o1, x0, x1, x2, x3, x4, rfl, hp1, ec, k0, k1, k2, k3, k4⟩ := HK.out j hlt
                have TA := (HT.out j hlt).grw HG.out OF.out
                rw [ec] at TA
                obtain ⟨g5, y5', t5, at5, kd5, A5, n5, a5, K5, c5, et, ev⟩ := TA.parts
                cases ev
                clear et
                have gc : ∀ (o : Nat) (u : Value), w1.cell? ⟨b1, o, none⟩ = some u → wr.cell? ⟨b1, o, none⟩ = some u := fun o u hc => by
                  rw [HG.out.kp.cell (World.block_lt_of_cell? w1 _ hc) (fun e => OF.out _ e hp1)]
                  exact hc
                replace k0 := gc _ _ k0
                replace k1 := gc _ _ k1
                replace k2 := gc _ _ k2
                replace k3 := gc _ _ k3
                replace k4 := gc _ _ k4
                have PN := Lib.hid (prt_next ks j hlt)
                have PL := prtL_take ks (j + 1)
                rw [PN.out, List.length_append] at PL
                have HL := HY5.out
                have hbd : (y6 ++ prtL (ks.take j)).length + (prt (ks.getD j tr0)).length ≤ 1000000 := by
                  rw [List.length_append]; omega
                have SK : Hid ((ks.getD j tr0).cnt ≤ n) := by
                  have h1 := kid_cnt ks j hlt
                  have h2 := SZ.out
                  show _ ≤ n
                  omega
                have hbx := (Below.refl _ wr).alloc (Nat.le_refl _) (.cells #[.string g5, .string y5', .string t5, .slice A5 n5 a5, .slice K5 kd5.length c5] 27 (0, 0))
                have TB := Lib.hid (TA.call hbx)
                have OB := Lib.hid (HO.out.below hbx)
                have GB := Lib.hid (HG.out.below hbx)
                have QB : Hid (∀ i, q i → i < (wr.alloc (.cells #[.string g5, .string y5', .string t5, .slice A5 n5 a5, .slice K5 kd5.length c5] 27 (0, 0))).heap.size) := fun i hi => Nat.lt_of_lt_of_le (Nat.lt_of_lt_of_le (QL.out i hi) HG.out.kp.size) hbx.size
                have OFB := Lib.hid (OF.out.grw HG.out QL.out)
                have YN : Hid (y6 ++ prtL (ks.take (j + 1)) = (y6 ++ prtL (ks.take j)) ++ prt (ks.getD j tr0)) := by rw [Hid, PN.out]; simp
                clear gc ec TA hbx HO HG PN PL HL
                generalize ks.getD j tr0 = kj at *
                generalize y6 ++ prtL (ks.take j) = zs at *
                go_wp2_with fail
                clear k0 k1 k2 k3 k4
                generalize wr.alloc _ = wb at *
                refine (IH.out q u0 _ zs kj wb SK.out TB.out QB.out OFB.out OB.out (by omega)).mono ?_
                rintro e w7 ⟨v7, rfl, h7, g7⟩
                have O7 : Hid (Byt v7 (y6 ++ prtL (ks.take (j + 1))) w7) := by rw [Hid, YN.out]; exact h7
                have G7 := Lib.hid (GB.out.trans g7)
                clear h7 g7 GB OB TB QB OFB YN
                go_wp2_with fail
                go_roundw
                case rel => exact ⟨j + 1, by omega, by go_num, O7, G7⟩
                case measure => simp [intOf]; omega
              · obtain rfl : j = ks.length := by omega
                rw [List.take_length] at HO
                have HL := HY5.out
                have hzl : (y6 ++ prtL ks).length ≤ 1000000 := by rw [List.length_append]; omega
                have VN : Hid (u0.ownBlock ≠ none) := byt_some HO.out (NE.out ks)
                clear HY5 HL
                generalize y6 ++ prtL ks = zs at *
                go_wp2_with (at_builtin; go_loud (refine wpList_bs _ rfl _ _ rfl u0 zs rfl HO.out VN.out ⟨#[60, 47, 62]⟩ rfl (by omega) (by decide) ?_))
                intro v8 w8 h8 g8
                have O8 : Byt v8 (xs ++ prt (.mk g k x a ks)) w8 := by rw [EQ5.out]; exact h8
                have G8 := (G0.out.trans HG.out).trans g8
                clear h8 g8
                go_wp2_with fail
                go_ret
                exact ⟨_, rfl, O8, G8⟩

noncomputable def pnT (t : Tr) : Tx := if rtB t = true then st (prt t) else ⟨#[]⟩
theorem byt_text {v : Value} {xs : List Int} {w : World} (h : Byt v xs w) : (convert 42 9 v).run Try.prog w = .ok (.string (st xs)) w := by
  obtain ⟨hl, h1 | ⟨g, cap, cur, rfl, _, hb, _, _, _, ht⟩⟩ := id h
  · obtain ⟨rfl, hn⟩ := h1
    obtain rfl : xs = [] := List.eq_nil_of_length_eq_zero hn
    exact run_convert_bytes_nil w 42 5 Try.underlying42 Try.underlying5 0 0 9 Try.underlying9
  · refine run_convert_bytes_arg w 42 5 Try.underlying42 Try.underlying5 g 0 xs.length cap xs rfl ?_ 9 Try.underlying9
    intro i hi
    have := World.ownsRow.cells h rfl i (.int .u8 (xs.getD i 0)) (by simp [List.getD, hi])
    rw [Addr.add_lit] at this
    exact this
set_option maxHeartbeats 12800000 in
theorem print8 {p : Nat → Prop} (v : Value) (t : Tr) (w : World) (h : TrW p w v t) (hs : t.all NdS) (hl : (prt t).length ≤ 1000000) :
    Calls Try.prog 8 #[v] w fun e w' => e = .returned (.string (pnT t)) ∧ Below w.heap.size w w' := by
  obtain ⟨g, k, x, a, ks, A1, l1, a1, K1, c1, rfl, rfl⟩ := h.parts
  have hb0 := (Below.refl _ w).alloc (Nat.le_refl _) (.cells #[.string g, .string k, .string x, .slice A1 l1 a1, .slice K1 ks.length c1] 27 (0, 0))
  have X0 := Lib.hid (blk_new w (.cells #[.string g, .string k, .string x, .slice A1 l1 a1, .slice K1 ks.length c1] 27 (0, 0)))
  have T0 := Lib.hid (h.call hb0)
  have B0 := Lib.hid hb0
  have HS := Lib.hid hs
  clear h hs hb0
  go_enter Try.func8, Try.ntmps8
  go_upto_region 1 with fail
  generalize w.alloc _ = w1 at *
  have x0 := blk_cell X0.out 0
  have x1 := blk_cell X0.out 1
  have x2 := blk_cell X0.out 2
  have x3 := blk_cell X0.out 3
  have x4 := blk_cell X0.out 4
  simp at x0 x1 x2 x3 x4
  go_wp2_with fail
  refine (right7 _ _ w1 T0.out HS.out).mono ?_
  rintro e w2 ⟨rfl, hb2⟩
  have X2 := Lib.hid (blk_call X0.out hb2)
  have T2 := Lib.hid (T0.out.call hb2)
  have B2 := Lib.hid (B0.out.trans (hb2.mono B0.out.size))
  clear hb2 X0 T0 B0 x0 x1 x2 x3 x4
  cases hr : rtB (.mk g k x a ks) with
  | false =>
    have E : Hid (pnT (.mk g k x a ks) = ⟨#[]⟩) := if_neg (by rw [hr]; decide)
    go_wp2
    go_ret
    exact ⟨by rw [E.out]; rfl, B2.out⟩
  | true =>
    have E : Hid (pnT (.mk g k x a ks) = st (prt (.mk g k x a ks))) := if_pos hr
    have x0 := blk_cell X2.out 0
    have x1 := blk_cell X2.out 1
    have x2 := blk_cell X2.out 2
    have x3 := blk_cell X2.out 3
    have x4 := blk_cell X2.out 4
    simp at x0 x1 x2 x3 x4
    go_wp2_with fail
    refine (addTree19 (Tr.mk g k x a ks).cnt (fun i => p i ∧ i < w2.heap.size) (.slice none 0 0) _ [] (.mk g k x a ks) w2 (Nat.le_refl _) (T2.out.mono (fun i hp hl => ⟨hp, hl⟩)) (fun i hi => hi.2) (fun g e => by cases e) (byt_nil w2) (by simpa using hl)).mono ?_
    rintro e w3 ⟨v3, rfl, h3, g3⟩
    rw [List.nil_append] at h3
    have hcv := byt_text h3
    rw [← E.out] at hcv
    have B3 := Lib.hid (B2.out.trans (g3.kp.below B2.out.size (fun k hk e => by cases e)))
    clear g3
    go_wp2
    go_ret
    exact ⟨rfl, B3.out⟩
end Go.Proofs.Ytolklphenllhpaa
