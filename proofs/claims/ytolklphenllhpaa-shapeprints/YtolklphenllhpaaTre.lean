/-
  Trees in memory, as they are read; porticokeep.Trees.
-/
import Derived.Test.YtolklphenllhpaaSme
namespace Go.Proofs.Ytolklphenllhpaa
open Go.RowKit Go.PlainAid
set_option maxRecDepth 100000

def tr0 : Tr := .mk ⟨#[]⟩ ⟨#[]⟩ ⟨#[]⟩ [] []
/-- v reads as the tree t; each block that is read for it is one of p's -/
inductive TrW (p : Nat → Prop) (w : World) : Value → Tr → Prop where
  | mk {tag key text : Tx} {attrs : List Pr} {kids : List Tr} {av : Value} {A : Option Addr} {c : Nat} (cv : Nat → Value) (hb : attrs.length ≤ 1000000 ∧ kids.length ≤ 1000000) (ha : Ps w av attrs) (hap : ∀ a n c, av = .slice (some a) n c → 0 < attrs.length → p a.block) (hc : kids.length ≤ c)
      (hk : ∀ i, i < kids.length → ∃ b o x0 x1 x2 x3 x4, A = some ⟨b, o, none⟩ ∧ p b ∧ cv i = .agg #[x0, x1, x2, x3, x4] ∧ w.cell? ⟨b, o + i * 5, none⟩ = some x0 ∧ w.cell? ⟨b, o + i * 5 + 1, none⟩ = some x1 ∧ w.cell? ⟨b, o + i * 5 + 2, none⟩ = some x2 ∧ w.cell? ⟨b, o + i * 5 + 3, none⟩ = some x3 ∧ w.cell? ⟨b, o + i * 5 + 4, none⟩ = some x4)
      (ht : ∀ i, i < kids.length → TrW p w (cv i) (kids.getD i tr0)) : TrW p w (.agg #[.string tag, .string key, .string text, av, .slice A kids.length c]) (.mk tag key text attrs kids)
theorem Ps.frame {p : Nat → Prop} {w w' : World} {v : Value} {l : List Pr} (h : Ps w v l) (hp : ∀ a n c, v = .slice (some a) n c → 0 < l.length → p a.block) (hb : ∀ k, p k → k < w.heap.size → w'.heap[k]? = w.heap[k]?) : Ps w' v l := by
  obtain ⟨A, cap, h1, h2, h3, h4⟩ := h
  refine ⟨A, cap, h1, h2, h3, fun i hi => ?_⟩
  obtain ⟨b, o, ha, hc, hd⟩ := h4 i hi
  have hpb : p b := hp ⟨b, o, none⟩ _ _ (by rw [h1, ha]) (by omega)
  have hbl := hb b hpb (World.block_lt_of_cell? w _ hc)
  exact ⟨b, o, ha, (World.cell?_of_block hbl).trans hc, (World.cell?_of_block hbl).trans hd⟩
theorem TrW.frame {p : Nat → Prop} {w w' : World} {v : Value} {t : Tr} (h : TrW p w v t) (hb : ∀ k, p k → k < w.heap.size → w'.heap[k]? = w.heap[k]?) : TrW p w' v t := by
  induction h with
  | mk cv hb' ha hap hc hk ht ih =>
    refine .mk cv hb' (ha.frame hap hb) hap hc (fun i hi => ?_) ih
    obtain ⟨b, o, x0, x1, x2, x3, x4, e, hp, e2, c0, c1, c2, c3, c4⟩ := hk i hi
    have g : ∀ (x : Nat) (v : Value), w.cell? ⟨b, x, none⟩ = some v → w'.cell? ⟨b, x, none⟩ = some v := fun x v hc => (World.cell?_of_block (hb b hp (World.block_lt_of_cell? w _ hc))).trans hc
    exact ⟨b, o, x0, x1, x2, x3, x4, e, hp, e2, g _ _ c0, g _ _ c1, g _ _ c2, g _ _ c3, g _ _ c4⟩
theorem TrW.call {p : Nat → Prop} {w w' : World} {v : Value} {t : Tr} (h : TrW p w v t) (hb : Below w.heap.size w w') : TrW p w' v t := h.frame (fun k _ hk => hb.block k hk)
theorem TrW.mono {p q : Nat → Prop} {w : World} {v : Value} {t : Tr} (h : TrW p w v t) (hpq : ∀ k, p k → k < w.heap.size → q k) : TrW q w v t := by
  induction h with
  | mk cv hb' ha hap hc hk ht ih =>
    refine .mk cv hb' ha (fun a n c e hl => hpq _ (hap a n c e hl) ?_) hc (fun i hi => ?_) ih
    · obtain ⟨A, cap, h1, h2, h3, h4⟩ := ha
      obtain ⟨b, o, hA, hc, hd⟩ := h4 0 hl
      rw [h1, hA] at e
      cases e
      exact World.block_lt_of_cell? w _ hc
    · obtain ⟨b, o, x0, x1, x2, x3, x4, e, hp, e2, c0, c1, c2, c3, c4⟩ := hk i hi
      exact ⟨b, o, x0, x1, x2, x3, x4, e, hpq b hp (World.block_lt_of_cell? w _ c0), e2, c0, c1, c2, c3, c4⟩
theorem TrW.parts {p : Nat → Prop} {w : World} {v : Value} {t : Tr} (h : TrW p w v t) : ∃ tag key text attrs kids A n a K c, t = .mk tag key text attrs kids ∧ v = .agg #[.string tag, .string key, .string text, .slice A n a, .slice K kids.length c] := by
  cases h with
  | mk cv hb ha hap hc hk ht =>
    obtain ⟨A, a, e, _⟩ := ha
    subst e
    exact ⟨_, _, _, _, _, _, _, _, _, _, rfl, rfl⟩
noncomputable def trB (a b : Tr) : Bool := by classical exact decide (a = b)
theorem trB_true {a b : Tr} (h : a = b) : trB a b = true := by unfold trB; simp [h]
theorem trB_false {a b : Tr} (h : ¬ a = b) : trB a b = false := by unfold trB; simp [h]
theorem trB_iff {a b : Tr} : trB a b = true ↔ a = b := by unfold trB; simp
noncomputable def tsz (t : Tr) : Nat := SizeOf.sizeOf t
theorem tsz_pos (t : Tr) : 0 < tsz t := by cases t; unfold tsz; simp only [Tr.mk.sizeOf_spec]; omega
theorem kid_size {tag key text : Tx} {attrs : List Pr} {kids : List Tr} {i : Nat} (h : i < kids.length) : tsz (kids.getD i tr0) < tsz (Tr.mk tag key text attrs kids) := by
  have hm : kids.getD i tr0 ∈ kids := by simp [List.getD, h]
  have := List.sizeOf_lt_of_mem hm
  unfold tsz
  simp only [Tr.mk.sizeOf_spec]
  omega
theorem trs_at {a b : List Tr} {k : Nat} (h : a.take k = b.take k) (h1 : k < a.length) (h2 : k < b.length) (he : a.getD k tr0 = b.getD k tr0) : a.take (k + 1) = b.take (k + 1) := by
  rw [List.take_add_one, List.take_add_one, h]
  simp only [List.getD, List.getElem?_eq_getElem h1, List.getElem?_eq_getElem h2, Option.getD_some] at he
  rw [List.getElem?_eq_getElem h1, List.getElem?_eq_getElem h2, he]

set_option maxHeartbeats 12800000 in
theorem trees15 {p q : Nat → Prop} (n : Nat) : ∀ (va vb : Value) (ta tb : Tr) (w : World), tsz ta ≤ n → TrW p w va ta → TrW q w vb tb →
    Calls Try.prog 15 #[va, vb] w fun e w' => e = .returned (.bool (trB ta tb)) ∧ Below w.heap.size w w' := by
  induction n with
  | zero =>
    intro va vb ta tb w hz
    have := tsz_pos ta
    omega
  | succ n ih =>
    intro va vb ta tb w hz h1 h2
    have HA := Lib.hid h1
    have HB := Lib.hid h2
    cases h1 with
    | @mk tag key text attrs kids av A c cv hbd ha hap hc hk ht =>
    cases h2 with
    | @mk tag' key' text' attrs' kids' av' A' c' cv' hbd' ha' hap' hc' hk' ht' =>
    have hla := hbd.1
    have hlk := hbd.2
    clear hbd hbd' hap hap'
    have PA := Lib.hid ha
    have PB := Lib.hid ha'
    obtain ⟨A1, a1, rfl, _, _, _⟩ := ha
    obtain ⟨A2, a2, rfl, _, _, _⟩ := ha'
    have IH := Lib.hid ih
    have HK := Lib.hid hk
    have HT := Lib.hid ht
    have HK' := Lib.hid hk'
    have HT' := Lib.hid ht'
    have SZ0 := Lib.hid hz
    clear ih hk ht hk' ht' hz HA HB
    have X1 := Lib.hid (blk_alloc (blk_new w (.cells #[.string tag, .string key, .string text, .slice A1 attrs.length a1, .slice A kids.length c] 27 (0, 0))) (.cells #[.string tag', .string key', .string text', .slice A2 attrs'.length a2, .slice A' kids'.length c'] 27 (0, 0)))
    have X2 := Lib.hid (blk_new1 w (.cells #[.string tag, .string key, .string text, .slice A1 attrs.length a1, .slice A kids.length c] 27 (0, 0)) (.cells #[.string tag', .string key', .string text', .slice A2 attrs'.length a2, .slice A' kids'.length c'] 27 (0, 0)))
    have B0 := Lib.hid (((Below.refl _ w).alloc (Nat.le_refl _) (.cells #[.string tag, .string key, .string text, .slice A1 attrs.length a1, .slice A kids.length c] 27 (0, 0))).alloc (by simp) (.cells #[.string tag', .string key', .string text', .slice A2 attrs'.length a2, .slice A' kids'.length c'] 27 (0, 0)))
    by_cases e1 : tag = tag'
    · have q1 := str_beq _ _ e1
      by_cases e2 : key = key'
      · have q2 := str_beq _ _ e2
        by_cases e3 : text = text'
        · have q3 := str_beq _ _ e3
          have PA2 := Lib.hid (PA.out.call B0.out)
          have PB2 := Lib.hid (PB.out.call B0.out)
          have Q1 := Lib.hid e1
          have Q2 := Lib.hid e2
          have Q3 := Lib.hid e3
          have x0 := blk_cell X1.out 0
          have x1 := blk_cell X1.out 1
          have x2 := blk_cell X1.out 2
          have x3 := blk_cell X1.out 3
          have x4 := blk_cell X1.out 4
          have y0 := blk_cell X2.out 0
          have y1 := blk_cell X2.out 1
          have y2 := blk_cell X2.out 2
          have y3 := blk_cell X2.out 3
          have y4 := blk_cell X2.out 4
          simp at x0 x1 x2 x3 x4 y0 y1 y2 y3 y4
          clear e1 e2 e3 x0 x1 x2 x3 x4 y0 y1 y2 y3 y4
          go_enter Try.func15, Try.ntmps15
          go_wp2_with fail
          generalize (w.alloc (.cells #[.string tag, .string key, .string text, .slice A1 attrs.length a1, .slice A kids.length c] 27 (0, 0))).alloc (.cells #[.string tag', .string key', .string text', .slice A2 attrs'.length a2, .slice A' kids'.length c'] 27 (0, 0)) = w2 at *
          refine (sameA24 _ _ attrs attrs' w2 PA2.out PB2.out (by omega)).mono ?_
          rintro e w3 ⟨rfl, hb3⟩
          have B3 := Lib.hid (B0.out.trans (hb3.mono B0.out.size))
          have X13 := Lib.hid (blk_call X1.out hb3)
          have X23 := Lib.hid (blk_call X2.out hb3)
          clear hb3 X1 X2 B0
          have x4' := blk_cell X13.out 4
          have y4' := blk_cell X23.out 4
          simp at x4' y4'
          by_cases e4 : attrs = attrs'
          · have q4 : decide (attrs = attrs') = true := decide_eq_true e4
            have Q4 := Lib.hid e4
            clear e4
            rw [q4]
            by_cases e5 : kids.length = kids'.length
            · have q5 : ((kids.length : Int) == (kids'.length : Int)) = true := by simp; omega
              have q5b : ((kids.length : Int) != (kids'.length : Int)) = false := by rw [bne, q5]; rfl
              have Q5 := Lib.hid e5
              clear e5
              go_wp2_with fail
              (try rw [q5b])
              clear q5 q5b
              go_loopw [45] (fun p wr => ∃ (j : Nat), j ≤ kids.length ∧ p = .int .i64 j ∧ Hid (kids.take j = kids'.take j) ∧ Hid (Below w3.heap.size w3 wr)) (fun p _ => kids.length - (intOf p).toNat)
              case atStart => exact ⟨0, Nat.zero_le _, rfl, rfl, Below.refl _ _⟩
              case round =>
                obtain ⟨j, hj, rfl, HJ, BW⟩ := hrel
                by_cases hlt : j < kids.length
                · have d0 : (j : Int) < (kids.length : Int) := by omega
                  have d1 : (j : Int) < (kids'.length : Int) := by have := Q5.out; omega
                  have BWW := Lib.hid (B3.out.trans (BW.out.mono B3.out.size))
                  obtain ⟨b1, o1, x0, x1, x2, x3, x4, rfl, _, ec, k0, k1, k2, k3, k4⟩ := HK.out j hlt
                  obtain ⟨b2, o2, y0, y1, y2, y3, y4, rfl, _, ec', m0, m1, m2, m3, m4⟩ := HK'.out j (by have := Q5.out; omega)
                  have TA := (HT.out j hlt).call BWW.out.drew
                  have TB := (HT'.out j (by have := Q5.out; omega)).call BWW.out.drew
                  rw [ec] at TA
                  rw [ec'] at TB
                  replace TA := Lib.hid TA
                  replace TB := Lib.hid TB
                  have SZ : Hid (tsz (kids.getD j tr0) ≤ n) := by
                    have h1 := kid_size (tag := tag) (key := key) (text := text) (attrs := attrs) hlt
                    have h2 := SZ0.out
                    show _ ≤ n
                    omega
                  have g : ∀ W, Below wr.heap.size wr W → ∀ (p : Addr) (v : Value), w.cell? p = some v → W.cell? p = some v := fun W hW p v hc => by
                    have hb := BWW.out.trans (hW.mono BWW.out.size)
                    rw [hb.cell (World.block_lt_of_cell? w _ hc)]
                    exact hc
                  have g2 : ∀ W, Below wr.heap.size wr W → ∀ (p : Addr) (v : Value), w3.cell? p = some v → W.cell? p = some v := fun W hW p v hc => by
                    have hb := BW.out.trans (hW.mono BW.out.size)
                    rw [hb.cell (World.block_lt_of_cell? w3 _ hc)]
                    exact hc
                  have SH := Lib.hid (fun W hW => (⟨g2 W hW _ _ x4', g2 W hW _ _ y4', g W hW _ _ k0, g W hW _ _ k1, g W hW _ _ k2, g W hW _ _ k3, g W hW _ _ k4, g W hW _ _ m0, g W hW _ _ m1, g W hW _ _ m2, g W hW _ _ m3, g W hW _ _ m4⟩ : _ ∧ _ ∧ _ ∧ _ ∧ _ ∧ _ ∧ _ ∧ _ ∧ _ ∧ _ ∧ _ ∧ _))
                  have HX := Lib.hid (trs_at HJ.out hlt (by have := Q5.out; omega))
                  clear g g2 ec ec' k0 k1 k2 k3 k4 m0 m1 m2 m3 m4 x4' y4'
                  by_cases e6 : kids.getD j tr0 = kids'.getD j tr0
                  · have q6 := trB_true e6
                    have HN := Lib.hid (HX.out e6)
                    clear e6 HX
                    go_upto_region 6 with fail
                    refine wp_region_ord ((true, 0) :: (true, 1) :: (true, 2) :: (true, 3) :: (true, 4) :: (true, 5) :: (true, 6) :: (true, 7) :: (true, 8) :: (true, 9) :: (false, 10) :: (true, 11) :: []) (fun W => Below wr.heap.size wr W) (by kernel_rfl) (by kernel_rfl) (by decide) (by kernel_rfl) (fun d _ _ _ _ h => by cases d <;> exact h) ((Below.refl _ wr).drew) ?_
                    refine ord_q (d := some 48) (v := ?_) rfl rfl (Or.inl ⟨by rfl, ?_⟩) ?_
                    rotate_left
                    · intro wz hSw
                      obtain ⟨a4, b4, x0, x1, x2, x3, x4, y0, y1, y2, y3, y4⟩ := SH.out wz hSw
                      go_simp
                      (try with_reducible rfl)
                    try simp only [Act.put, List.setIfInBounds_toArray, List.set_cons_zero, List.set_cons_succ]
                    refine ord_q (d := some 49) (v := ?_) rfl rfl (Or.inl ⟨by rfl, ?_⟩) ?_
                    rotate_left
                    · intro wz hSw
                      obtain ⟨a4, b4, x0, x1, x2, x3, x4, y0, y1, y2, y3, y4⟩ := SH.out wz hSw
                      go_simp
                      (try with_reducible rfl)
                    try simp only [Act.put, List.setIfInBounds_toArray, List.set_cons_zero, List.set_cons_succ]
                    refine ord_q (d := some 50) (v := ?_) rfl rfl (Or.inl ⟨by rfl, ?_⟩) ?_
                    rotate_left
                    · intro wz hSw
                      obtain ⟨a4, b4, x0, x1, x2, x3, x4, y0, y1, y2, y3, y4⟩ := SH.out wz hSw
                      go_simp
                      (try with_reducible rfl)
                    try simp only [Act.put, List.setIfInBounds_toArray, List.set_cons_zero, List.set_cons_succ]
                    refine ord_q (d := some 51) (v := ?_) rfl rfl (Or.inl ⟨by rfl, ?_⟩) ?_
                    rotate_left
                    · intro wz hSw
                      obtain ⟨a4, b4, x0, x1, x2, x3, x4, y0, y1, y2, y3, y4⟩ := SH.out wz hSw
                      go_simp
                      (try with_reducible rfl)
                    try simp only [Act.put, List.setIfInBounds_toArray, List.set_cons_zero, List.set_cons_succ]
                    refine ord_q (d := some 52) (v := ?_) rfl rfl (Or.inl ⟨by rfl, ?_⟩) ?_
                    rotate_left
                    · intro wz hSw
                      obtain ⟨a4, b4, x0, x1, x2, x3, x4, y0, y1, y2, y3, y4⟩ := SH.out wz hSw
                      go_simp
                      (try with_reducible rfl)
                    try simp only [Act.put, List.setIfInBounds_toArray, List.set_cons_zero, List.set_cons_succ]
                    refine ord_q (d := some 53) (v := ?_) rfl rfl (Or.inl ⟨by rfl, ?_⟩) ?_
                    rotate_left
                    · intro wz hSw
                      obtain ⟨a4, b4, x0, x1, x2, x3, x4, y0, y1, y2, y3, y4⟩ := SH.out wz hSw
                      go_simp
                      (try with_reducible rfl)
                    try simp only [Act.put, List.setIfInBounds_toArray, List.set_cons_zero, List.set_cons_succ]
                    refine ord_q (d := some 54) (v := ?_) rfl rfl (Or.inl ⟨by rfl, ?_⟩) ?_
                    rotate_left
                    · intro wz hSw
                      obtain ⟨a4, b4, x0, x1, x2, x3, x4, y0, y1, y2, y3, y4⟩ := SH.out wz hSw
                      go_simp
                      (try with_reducible rfl)
                    try simp only [Act.put, List.setIfInBounds_toArray, List.set_cons_zero, List.set_cons_succ]
                    refine ord_q (d := some 55) (v := ?_) rfl rfl (Or.inl ⟨by rfl, ?_⟩) ?_
                    rotate_left
                    · intro wz hSw
                      obtain ⟨a4, b4, x0, x1, x2, x3, x4, y0, y1, y2, y3, y4⟩ := SH.out wz hSw
                      go_simp
                      (try with_reducible rfl)
                    try simp only [Act.put, List.setIfInBounds_toArray, List.set_cons_zero, List.set_cons_succ]
                    refine ord_q (d := some 56) (v := ?_) rfl rfl (Or.inl ⟨by rfl, ?_⟩) ?_
                    rotate_left
                    · intro wz hSw
                      obtain ⟨a4, b4, x0, x1, x2, x3, x4, y0, y1, y2, y3, y4⟩ := SH.out wz hSw
                      go_simp
                      (try with_reducible rfl)
                    try simp only [Act.put, List.setIfInBounds_toArray, List.set_cons_zero, List.set_cons_succ]
                    refine ord_q (d := some 57) (v := ?_) rfl rfl (Or.inl ⟨by rfl, ?_⟩) ?_
                    rotate_left
                    · intro wz hSw
                      obtain ⟨a4, b4, x0, x1, x2, x3, x4, y0, y1, y2, y3, y4⟩ := SH.out wz hSw
                      go_simp
                      (try with_reducible rfl)
                    try simp only [Act.put, List.setIfInBounds_toArray, List.set_cons_zero, List.set_cons_succ]
                    refine ord_l ?_
                    refine wpOp_step rfl (fun K' hK => ?_)
                    have HK := Lib.hid hK
                    clear hK
                    rw [if_pos (by rfl)]
                    go_simp
                    refine (IH.out _ _ _ _ wr.drew SZ.out TA.out TB.out).mono ?_
                    rintro e w5 ⟨rfl, hb5⟩
                    rw [q6]
                    have B5 := Lib.hid ((Below.refl wr.heap.size wr).drew.trans hb5)
                    clear hb5
                    refine HK.out _ _ ⟨B5.out, ?_⟩
                    clear HK
                    try change OrdW _ _ _ _ _ (Act.put _ (some 58) _) _
                    try simp only [Act.put, List.setIfInBounds_toArray, List.set_cons_zero, List.set_cons_succ]
                    refine ord_q (d := some 59) (v := ?_) rfl rfl (Or.inl ⟨by rfl, ?_⟩) ?_
                    rotate_left
                    · intro wz hSw
                      obtain ⟨a4, b4, x0, x1, x2, x3, x4, y0, y1, y2, y3, y4⟩ := SH.out wz hSw
                      go_simp
                      (try with_reducible rfl)
                    try simp only [Act.put, List.setIfInBounds_toArray, List.set_cons_zero, List.set_cons_succ]
                    refine ord_nil ?_
                    clear SH
                    have B6 := Lib.hid (BW.out.trans (B5.out.mono BW.out.size))
                    go_wp2_with fail
                    go_roundw
                    case rel => exact ⟨j + 1, by omega, by go_num, HN, B6⟩
                    case measure => simp [intOf]; omega
                  · have q6 := trB_false e6
                    have E : Hid (trB (.mk tag key text attrs kids) (.mk tag' key' text' attrs' kids') = false) := trB_false (fun h => by cases h; exact e6 rfl)
                    clear e6 HX
                    go_upto_region 6 with fail
                    refine wp_region_ord ((true, 0) :: (true, 1) :: (true, 2) :: (true, 3) :: (true, 4) :: (true, 5) :: (true, 6) :: (true, 7) :: (true, 8) :: (true, 9) :: (false, 10) :: (true, 11) :: []) (fun W => Below wr.heap.size wr W) (by kernel_rfl) (by kernel_rfl) (by decide) (by kernel_rfl) (fun d _ _ _ _ h => by cases d <;> exact h) ((Below.refl _ wr).drew) ?_
                    refine ord_q (d := some 48) (v := ?_) rfl rfl (Or.inl ⟨by rfl, ?_⟩) ?_
                    rotate_left
                    · intro wz hSw
                      obtain ⟨a4, b4, x0, x1, x2, x3, x4, y0, y1, y2, y3, y4⟩ := SH.out wz hSw
                      go_simp
                      (try with_reducible rfl)
                    try simp only [Act.put, List.setIfInBounds_toArray, List.set_cons_zero, List.set_cons_succ]
                    refine ord_q (d := some 49) (v := ?_) rfl rfl (Or.inl ⟨by rfl, ?_⟩) ?_
                    rotate_left
                    · intro wz hSw
                      obtain ⟨a4, b4, x0, x1, x2, x3, x4, y0, y1, y2, y3, y4⟩ := SH.out wz hSw
                      go_simp
                      (try with_reducible rfl)
                    try simp only [Act.put, List.setIfInBounds_toArray, List.set_cons_zero, List.set_cons_succ]
                    refine ord_q (d := some 50) (v := ?_) rfl rfl (Or.inl ⟨by rfl, ?_⟩) ?_
                    rotate_left
                    · intro wz hSw
                      obtain ⟨a4, b4, x0, x1, x2, x3, x4, y0, y1, y2, y3, y4⟩ := SH.out wz hSw
                      go_simp
                      (try with_reducible rfl)
                    try simp only [Act.put, List.setIfInBounds_toArray, List.set_cons_zero, List.set_cons_succ]
                    refine ord_q (d := some 51) (v := ?_) rfl rfl (Or.inl ⟨by rfl, ?_⟩) ?_
                    rotate_left
                    · intro wz hSw
                      obtain ⟨a4, b4, x0, x1, x2, x3, x4, y0, y1, y2, y3, y4⟩ := SH.out wz hSw
                      go_simp
                      (try with_reducible rfl)
                    try simp only [Act.put, List.setIfInBounds_toArray, List.set_cons_zero, List.set_cons_succ]
                    refine ord_q (d := some 52) (v := ?_) rfl rfl (Or.inl ⟨by rfl, ?_⟩) ?_
                    rotate_left
                    · intro wz hSw
                      obtain ⟨a4, b4, x0, x1, x2, x3, x4, y0, y1, y2, y3, y4⟩ := SH.out wz hSw
                      go_simp
                      (try with_reducible rfl)
                    try simp only [Act.put, List.setIfInBounds_toArray, List.set_cons_zero, List.set_cons_succ]
                    refine ord_q (d := some 53) (v := ?_) rfl rfl (Or.inl ⟨by rfl, ?_⟩) ?_
                    rotate_left
                    · intro wz hSw
                      obtain ⟨a4, b4, x0, x1, x2, x3, x4, y0, y1, y2, y3, y4⟩ := SH.out wz hSw
                      go_simp
                      (try with_reducible rfl)
                    try simp only [Act.put, List.setIfInBounds_toArray, List.set_cons_zero, List.set_cons_succ]
                    refine ord_q (d := some 54) (v := ?_) rfl rfl (Or.inl ⟨by rfl, ?_⟩) ?_
                    rotate_left
                    · intro wz hSw
                      obtain ⟨a4, b4, x0, x1, x2, x3, x4, y0, y1, y2, y3, y4⟩ := SH.out wz hSw
                      go_simp
                      (try with_reducible rfl)
                    try simp only [Act.put, List.setIfInBounds_toArray, List.set_cons_zero, List.set_cons_succ]
                    refine ord_q (d := some 55) (v := ?_) rfl rfl (Or.inl ⟨by rfl, ?_⟩) ?_
                    rotate_left
                    · intro wz hSw
                      obtain ⟨a4, b4, x0, x1, x2, x3, x4, y0, y1, y2, y3, y4⟩ := SH.out wz hSw
                      go_simp
                      (try with_reducible rfl)
                    try simp only [Act.put, List.setIfInBounds_toArray, List.set_cons_zero, List.set_cons_succ]
                    refine ord_q (d := some 56) (v := ?_) rfl rfl (Or.inl ⟨by rfl, ?_⟩) ?_
                    rotate_left
                    · intro wz hSw
                      obtain ⟨a4, b4, x0, x1, x2, x3, x4, y0, y1, y2, y3, y4⟩ := SH.out wz hSw
                      go_simp
                      (try with_reducible rfl)
                    try simp only [Act.put, List.setIfInBounds_toArray, List.set_cons_zero, List.set_cons_succ]
                    refine ord_q (d := some 57) (v := ?_) rfl rfl (Or.inl ⟨by rfl, ?_⟩) ?_
                    rotate_left
                    · intro wz hSw
                      obtain ⟨a4, b4, x0, x1, x2, x3, x4, y0, y1, y2, y3, y4⟩ := SH.out wz hSw
                      go_simp
                      (try with_reducible rfl)
                    try simp only [Act.put, List.setIfInBounds_toArray, List.set_cons_zero, List.set_cons_succ]
                    refine ord_l ?_
                    refine wpOp_step rfl (fun K' hK => ?_)
                    have HK := Lib.hid hK
                    clear hK
                    rw [if_pos (by rfl)]
                    go_simp
                    refine (IH.out _ _ _ _ wr.drew SZ.out TA.out TB.out).mono ?_
                    rintro e w5 ⟨rfl, hb5⟩
                    rw [q6]
                    have B5 := Lib.hid ((Below.refl wr.heap.size wr).drew.trans hb5)
                    clear hb5
                    refine HK.out _ _ ⟨B5.out, ?_⟩
                    clear HK
                    try change OrdW _ _ _ _ _ (Act.put _ (some 58) _) _
                    try simp only [Act.put, List.setIfInBounds_toArray, List.set_cons_zero, List.set_cons_succ]
                    refine ord_q (d := some 59) (v := ?_) rfl rfl (Or.inl ⟨by rfl, ?_⟩) ?_
                    rotate_left
                    · intro wz hSw
                      obtain ⟨a4, b4, x0, x1, x2, x3, x4, y0, y1, y2, y3, y4⟩ := SH.out wz hSw
                      go_simp
                      (try with_reducible rfl)
                    try simp only [Act.put, List.setIfInBounds_toArray, List.set_cons_zero, List.set_cons_succ]
                    refine ord_nil ?_
                    clear SH
                    have B7 := Lib.hid (BWW.out.trans (B5.out.mono BWW.out.size))
                    go_wp2
                    go_ret
                    exact ⟨by rw [E.out]; rfl, B7.out⟩
                · obtain rfl : j = kids.length := by omega
                  have E : Hid (trB (.mk tag key text attrs kids) (.mk tag' key' text' attrs' kids') = true) := by
                    have h := HJ.out
                    rw [List.take_length, Q5.out, List.take_length] at h
                    exact trB_true (by rw [Q1.out, Q2.out, Q3.out, Q4.out, h])
                  have B7 := Lib.hid (B3.out.trans (BW.out.mono B3.out.size))
                  go_wp2
                  go_ret
                  exact ⟨by rw [E.out]; rfl, B7.out⟩
            · have q5 : ((kids.length : Int) == (kids'.length : Int)) = false := beqF (by omega)
              have E : Hid (trB (.mk tag key text attrs kids) (.mk tag' key' text' attrs' kids') = false) := trB_false (fun h => by cases h; exact e5 rfl)
              clear e5
              go_wp2
              go_ret
              exact ⟨by rw [E.out]; rfl, B3.out⟩
          · have q4 : decide (attrs = attrs') = false := decide_eq_false e4
            have E : Hid (trB (.mk tag key text attrs kids) (.mk tag' key' text' attrs' kids') = false) := trB_false (fun h => by cases h; exact e4 rfl)
            clear e4
            rw [q4]
            go_wp2
            go_ret
            exact ⟨by rw [E.out]; rfl, B3.out⟩
        · have q3 := str_bne _ _ e3
          have E : Hid (trB (.mk tag key text attrs kids) (.mk tag' key' text' attrs' kids') = false) := trB_false (fun h => by cases h; exact e3 rfl)
          clear e3 e2 e1
          go_enter Try.func15, Try.ntmps15
          go_wp2
          go_ret
          exact ⟨by rw [E.out]; rfl, B0.out⟩
      · have q2 := str_bne _ _ e2
        have E : Hid (trB (.mk tag key text attrs kids) (.mk tag' key' text' attrs' kids') = false) := trB_false (fun h => by cases h; exact e2 rfl)
        clear e2 e1
        go_enter Try.func15, Try.ntmps15
        go_wp2
        go_ret
        exact ⟨by rw [E.out]; rfl, B0.out⟩
    · have q1 := str_bne _ _ e1
      have E : Hid (trB (.mk tag key text attrs kids) (.mk tag' key' text' attrs' kids') = false) := trB_false (fun h => by cases h; exact e1 rfl)
      clear e1
      go_enter Try.func15, Try.ntmps15
      go_wp2
      go_ret
      exact ⟨by rw [E.out]; rfl, B0.out⟩
end Go.Proofs.Ytolklphenllhpaa
