/-
  shape.Same, with slices.Equal at attributes and slices.EqualFunc at trees.
-/
import Derived.Test.YtolklphenllhpaaMdl
namespace Go.Proofs.Ytolklphenllhpaa
open Go.RowKit Go.PlainAid
set_option maxRecDepth 100000

set_option maxHeartbeats 1600000 in
theorem equal25 (v1 v2 : Value) (a b : List Pr) (w : World) (h1 : Ps w v1 a) (h2 : Ps w v2 b) (hz : a.length ≤ 1000000000) :
    Calls Try.prog 25 #[v1, v2] w fun e w' => e = .returned (.bool (decide (a = b))) ∧ Below w.heap.size w w' := by
  obtain ⟨A, cap, rfl, _, _, hc⟩ := h1
  obtain ⟨A2, cap2, rfl, _, _, hc2⟩ := h2
  have HC := Lib.hid hc
  have HC2 := Lib.hid hc2
  clear hc hc2
  by_cases hl : a.length = b.length
  · have HL := Lib.hid hl
    have c0 : ((a.length : Int) == (b.length : Int)) = true := by simp; omega
    clear hl
    go_enter Try.func25, Try.ntmps25
    go_wp2_with fail
    (try rw [c0])
    clear c0
    go_loopw [13] (fun i wr => ∃ (k : Nat), k ≤ a.length ∧ i = .int .i64 k ∧ a.take k = b.take k ∧ Below w.heap.size w wr) (fun i _ => a.length - (intOf i).toNat)
    case atStart => exact ⟨0, Nat.zero_le _, rfl, rfl, Below.refl _ _⟩
    case round =>
      obtain ⟨k, hk, rfl, ht, hbw⟩ := hrel
      have HT := Lib.hid ht
      have HW := Lib.hid hbw
      have hl2 := HL.out
      clear ht hbw
      by_cases hlt : k < a.length
      · have d0 : (k : Int) < (a.length : Int) := by omega
        have d1 : (k : Int) < (b.length : Int) := by omega
        have HX := Lib.hid (take_eq_next HT.out hlt (by omega))
        have HY := Lib.hid (@ne_at _ _ a b k)
        obtain ⟨x, o, rfl, hcell, hcelb⟩ := HC.out k hlt
        obtain ⟨x2, o2, rfl, hcell2, hcelb2⟩ := HC2.out k (by omega)
        have g1 : wr.cell? ⟨x, o + k * 2, none⟩ = some (.string (a.getD k default).1) := by rw [HW.out.cell (World.block_lt_of_cell? _ _ hcell)]; exact hcell
        have g2 : wr.cell? ⟨x2, o2 + k * 2, none⟩ = some (.string (b.getD k default).1) := by rw [HW.out.cell (World.block_lt_of_cell? _ _ hcell2)]; exact hcell2
        have g3 : wr.cell? ⟨x, o + k * 2 + 1, none⟩ = some (.string (a.getD k default).2) := by rw [HW.out.cell (World.block_lt_of_cell? _ _ hcelb)]; exact hcelb
        have g4 : wr.cell? ⟨x2, o2 + k * 2 + 1, none⟩ = some (.string (b.getD k default).2) := by rw [HW.out.cell (World.block_lt_of_cell? _ _ hcelb2)]; exact hcelb2
        clear hcell hcell2 hcelb hcelb2
        clear hl2
        generalize a.getD k default = s at *
        generalize b.getD k default = t at *
        by_cases hst : s = t
        · obtain ⟨q1, q2⟩ := pr_beq s t hst
          obtain ⟨s, s'⟩ := s
          obtain ⟨t, t'⟩ := t
          simp only at q1 q2 g1 g2 g3 g4
          have HST := Lib.hid hst
          clear hst
          go_wp2_with fail
          go_region
          go_wp2_with fail
          go_roundw
          case rel => exact ⟨k + 1, by omega, by go_num, HX.out HST.out, HW.out.drew⟩
          case measure => simp [intOf]; omega
        · have e0 : decide (a = b) = false := decide_eq_false (HY.out hst)
          have E0 := Lib.hid e0
          have hq := pr_bne s t hst
          clear e0 hst HX HY
          obtain ⟨s, s'⟩ := s
          obtain ⟨t, t'⟩ := t
          simp only at hq g1 g2 g3 g4
          rcases hq with q1 | ⟨q1, q2⟩
          all_goals
            go_wp2_with fail
            go_region
            go_wp2
            rw [E0.out]
            go_ret
            exact ⟨rfl, HW.out.drew⟩
      · obtain rfl : k = a.length := by omega
        have e0 : decide (a = b) = true := by
          have := HT.out
          rw [List.take_length, hl2, List.take_length] at this
          exact decide_eq_true this
        have E0 := Lib.hid e0
        clear e0 hl2
        go_wp2
        rw [E0.out]
        go_ret
        exact ⟨rfl, HW.out⟩
  · have c0 : ¬ (a.length : Int) = (b.length : Int) := by omega
    have c1 : ((a.length : Int) == (b.length : Int)) = false := by simpa using c0
    have e0 : decide (a = b) = false := decide_eq_false (fun h => hl (by rw [h]))
    have E0 := Lib.hid e0
    clear e0
    go_enter Try.func25, Try.ntmps25
    go_wp2
    rw [E0.out]
    go_ret
    exact ⟨rfl, Below.refl _ _⟩


/-- a row of trees as it is read -/
def Ks (p : Nat → Prop) (w : World) (v : Value) (ts : List Tr) : Prop :=
  ∃ A c, ∃ cv : Nat → Value, v = .slice A ts.length c ∧ ts.length ≤ 1000000 ∧ (∀ i, i < ts.length → ∃ b o x0 x1 x2 x3 x4, A = some ⟨b, o, none⟩ ∧ p b ∧ cv i = .agg #[x0, x1, x2, x3, x4] ∧ w.cell? ⟨b, o + i * 5, none⟩ = some x0 ∧ w.cell? ⟨b, o + i * 5 + 1, none⟩ = some x1 ∧ w.cell? ⟨b, o + i * 5 + 2, none⟩ = some x2 ∧ w.cell? ⟨b, o + i * 5 + 3, none⟩ = some x3 ∧ w.cell? ⟨b, o + i * 5 + 4, none⟩ = some x4) ∧ ∀ i, i < ts.length → TrW p w (cv i) (ts.getD i tr0)
theorem Ks.call {p : Nat → Prop} {w w' : World} {v : Value} {ts : List Tr} (h : Ks p w v ts) (hb : Below w.heap.size w w') : Ks p w' v ts := by
  obtain ⟨A, c, cv, e, hl, hk, ht⟩ := h
  refine ⟨A, c, cv, e, hl, fun i hi => ?_, fun i hi => (ht i hi).call hb⟩
  obtain ⟨b, o, x0, x1, x2, x3, x4, e, hp, e2, c0, c1, c2, c3, c4⟩ := hk i hi
  have g : ∀ (p : Addr) (v : Value), w.cell? p = some v → w'.cell? p = some v := fun p v hc => by
    rw [hb.cell (World.block_lt_of_cell? w _ hc)]; exact hc
  exact ⟨b, o, x0, x1, x2, x3, x4, e, hp, e2, g _ _ c0, g _ _ c1, g _ _ c2, g _ _ c3, g _ _ c4⟩
/-- the same contract for shape.Same at smaller trees -/
def SameC (n : Nat) : Prop := ∀ (p q : Nat → Prop) (va vb : Value) (ta tb : Tr) (w : World), ta.cnt ≤ n → TrW p w va ta → TrW q w vb tb →
    Calls Try.prog 16 #[va, vb] w fun e w' => e = .returned (.bool (trB ta tb)) ∧ Below w.heap.size w w'
noncomputable def tlB (a b : List Tr) : Bool := by classical exact decide (a = b)
theorem tlB_true {a b : List Tr} (h : a = b) : tlB a b = true := by unfold tlB; simp [h]
theorem tlB_false {a b : List Tr} (h : ¬ a = b) : tlB a b = false := by unfold tlB; simp [h]

set_option maxHeartbeats 12800000 in
theorem equalF26 {p q : Nat → Prop} (n : Nat) (ih : SameC n) (va vb : Value) (ka kb : List Tr) (w : World) (hz : cntL ka ≤ n) (h1 : Ks p w va ka) (h2 : Ks q w vb kb) :
    Calls Try.prog 26 #[va, vb, .func (.func 16) #[] #[]] w fun e w' => e = .returned (.bool (tlB ka kb)) ∧ Below w.heap.size w w' := by
  obtain ⟨A, c, cv, rfl, hla, hk, ht⟩ := h1
  obtain ⟨A', c', cv', rfl, _, hk', ht'⟩ := h2
  have IH := Lib.hid ih
  have HK := Lib.hid hk
  have HT := Lib.hid ht
  have HK' := Lib.hid hk'
  have HT' := Lib.hid ht'
  have SZ := Lib.hid hz
  clear ih hk ht hk' ht' hz
  by_cases e5 : ka.length = kb.length
  · have q5 : ((ka.length : Int) == (kb.length : Int)) = true := by simp; omega
    have Q5 := Lib.hid e5
    clear e5
    go_enter Try.func26, Try.ntmps26
    go_wp2_with fail
    (try rw [show ((ka.length : Int) != (kb.length : Int)) = false by rw [bne, q5]; rfl])
    clear q5
    go_loopw [17] (fun p wr => ∃ (j : Nat), j ≤ ka.length ∧ p = .int .i64 j ∧ Hid (ka.take j = kb.take j) ∧ Hid (Below w.heap.size w wr)) (fun p _ => ka.length - (intOf p).toNat)
    case atStart => exact ⟨0, Nat.zero_le _, rfl, rfl, Below.refl _ _⟩
    case round =>
      obtain ⟨j, hj, rfl, HJ, BW⟩ := hrel
      by_cases hlt : j < ka.length
      · have d0 : (j : Int) < (ka.length : Int) := by omega
        have d1 : (j : Int) < (kb.length : Int) := by have := Q5.out; omega
        obtain ⟨b1, o1, x0, x1, x2, x3, x4, rfl, _, ec, k0, k1, k2, k3, k4⟩ := HK.out j hlt
        obtain ⟨b2, o2, y0, y1, y2, y3, y4, rfl, _, ec', m0, m1, m2, m3, m4⟩ := HK'.out j (by have := Q5.out; omega)
        have TA := (HT.out j hlt).call BW.out
        have TB := (HT'.out j (by have := Q5.out; omega)).call BW.out
        rw [ec] at TA
        rw [ec'] at TB
        obtain ⟨g5, y5, t5, at5, kd5, A5, n5, a5, K5, c5, et, ev⟩ := TA.parts
        cases ev
        clear et
        obtain ⟨g6, y6, t6, at6, kd6, A6, n6, a6, K6, c6, et, ev⟩ := TB.parts
        cases ev
        clear et
        replace TA := Lib.hid TA
        replace TB := Lib.hid TB
        have SZ : Hid ((ka.getD j tr0).cnt ≤ n) := by
          have h1 := kid_cnt ka j hlt
          have h2 := SZ.out
          show _ ≤ n
          omega
        have g : ∀ (p : Addr) (v : Value), w.cell? p = some v → wr.cell? p = some v := fun p v hc => by
          rw [BW.out.cell (World.block_lt_of_cell? w _ hc)]
          exact hc
        replace k0 := g _ _ k0
        replace k1 := g _ _ k1
        replace k2 := g _ _ k2
        replace k3 := g _ _ k3
        replace k4 := g _ _ k4
        replace m0 := g _ _ m0
        replace m1 := g _ _ m1
        replace m2 := g _ _ m2
        replace m3 := g _ _ m3
        replace m4 := g _ _ m4
        have HX := Lib.hid (trs_at HJ.out hlt (by have := Q5.out; omega))
        have HY : Hid (¬ ka.getD j tr0 = kb.getD j tr0 → ¬ ka = kb) := fun h e => h (by rw [e])
        have CE := fun (x y : Obj) => ((Below.refl _ wr).alloc (Nat.le_refl _) x).alloc (by simp) y
        have BE := fun (x y : Obj) => Lib.hid (BW.out.trans ((CE x y).mono BW.out.size))
        have TE := fun (x y : Obj) => Lib.hid (TA.out.call (CE x y))
        have TF := fun (x y : Obj) => Lib.hid (TB.out.call (CE x y))
        have B5 := BE (.cells #[.string g5, .string y5, .string t5, .slice A5 n5 a5, .slice K5 kd5.length c5] 27 (0, 0)) (.cells #[.string g6, .string y6, .string t6, .slice A6 n6 a6, .slice K6 kd6.length c6] 27 (0, 0))
        have T5 := TE (.cells #[.string g5, .string y5, .string t5, .slice A5 n5 a5, .slice K5 kd5.length c5] 27 (0, 0)) (.cells #[.string g6, .string y6, .string t6, .slice A6 n6 a6, .slice K6 kd6.length c6] 27 (0, 0))
        have T6 := TF (.cells #[.string g5, .string y5, .string t5, .slice A5 n5 a5, .slice K5 kd5.length c5] 27 (0, 0)) (.cells #[.string g6, .string y6, .string t6, .slice A6 n6 a6, .slice K6 kd6.length c6] 27 (0, 0))
        clear g ec ec' CE BE TE TF TA TB
        go_upto_region 6 with fail
        have CE := (Below.refl _ wr).alloc (Nat.le_refl _) (.cells #[.string g5, .string y5, .string t5, .slice A5 n5 a5, .slice K5 kd5.length c5] 27 (0, 0))
        have g : ∀ (p : Addr) (v : Value), wr.cell? p = some v → (wr.alloc (.cells #[.string g5, .string y5, .string t5, .slice A5 n5 a5, .slice K5 kd5.length c5] 27 (0, 0))).cell? p = some v := fun p v hc => by
          rw [CE.cell (World.block_lt_of_cell? wr _ hc)]
          exact hc
        replace m0 := g _ _ m0
        replace m1 := g _ _ m1
        replace m2 := g _ _ m2
        replace m3 := g _ _ m3
        replace m4 := g _ _ m4
        clear CE g
        go_upto_region 7 with fail
        clear k0 k1 k2 k3 k4 m0 m1 m2 m3 m4
        go_wp2_with fail
        generalize (wr.alloc _).alloc _ = w5 at *
        refine (IH.out _ _ _ _ _ _ w5 SZ.out T5.out T6.out).mono ?_
        rintro e w6 ⟨rfl, hb6⟩
        have B6 := Lib.hid (B5.out.trans (hb6.mono B5.out.size))
        clear hb6 B5 T5 T6
        by_cases e6 : ka.getD j tr0 = kb.getD j tr0
        · have HN := Lib.hid (HX.out e6)
          rw [trB_true e6]
          clear e6 HX HY
          go_wp2_with fail
          go_roundw
          case rel => exact ⟨j + 1, by omega, by go_num, HN, B6⟩
          case measure => simp [intOf]; omega
        · have E := Lib.hid (tlB_false (HY.out e6))
          rw [trB_false e6]
          clear e6 HX HY
          go_wp2
          go_ret
          exact ⟨by rw [E.out]; rfl, B6.out⟩
      · obtain rfl : j = ka.length := by omega
        have E : Hid (tlB ka kb = true) := by
          have h := HJ.out
          rw [List.take_length, Q5.out, List.take_length] at h
          exact tlB_true h
        go_wp2
        go_ret
        exact ⟨by rw [E.out]; rfl, BW.out⟩
  · have q5 : ((ka.length : Int) == (kb.length : Int)) = false := beqF (by omega)
    have E : Hid (tlB ka kb = false) := tlB_false (fun h => e5 (by rw [h]))
    clear e5
    go_enter Try.func26, Try.ntmps26
    go_wp2
    go_ret
    exact ⟨by rw [E.out]; rfl, Below.refl _ _⟩

theorem TrW.ks {p : Nat → Prop} {w : World} {tag key text : Tx} {attrs : List Pr} {kids : List Tr} {v0 v1 v2 v3 v4 : Value} (h : TrW p w (.agg #[v0, v1, v2, v3, v4]) (.mk tag key text attrs kids)) :
    v0 = .string tag ∧ v1 = .string key ∧ v2 = .string text ∧ Ps w v3 attrs ∧ attrs.length ≤ 1000000 ∧ Ks p w v4 kids := by
  cases h with
  | mk cv hb ha hap hc hk ht => exact ⟨rfl, rfl, rfl, ha, hb.1, _, _, cv, rfl, hb.2, hk, ht⟩

set_option maxHeartbeats 12800000 in
theorem same16 (n : Nat) : SameC n := by
  induction n with
  | zero =>
    intro p q va vb ta tb w hz
    have := cnt_pos ta
    omega
  | succ n ih =>
    intro p q va vb ta tb w hz h1 h2
    obtain ⟨tag, key, text, attrs, kids, A1, l1, a1, K1, c1, rfl, rfl⟩ := h1.parts
    obtain ⟨tag', key', text', attrs', kids', A2, l2, a2, K2, c2, rfl, rfl⟩ := h2.parts
    obtain ⟨_, _, _, PA, hla, KA⟩ := h1.ks
    obtain ⟨_, _, _, PB, _, KB⟩ := h2.ks
    rw [cnt_mk] at hz
    have hb0 := ((Below.refl _ w).alloc (Nat.le_refl _) (.cells #[.string tag, .string key, .string text, .slice A1 l1 a1, .slice K1 kids.length c1] 27 (0, 0))).alloc (by simp) (.cells #[.string tag', .string key', .string text', .slice A2 l2 a2, .slice K2 kids'.length c2] 27 (0, 0))
    have B0 := Lib.hid hb0
    have X1 := Lib.hid (blk_alloc (blk_new w (.cells #[.string tag, .string key, .string text, .slice A1 l1 a1, .slice K1 kids.length c1] 27 (0, 0))) (.cells #[.string tag', .string key', .string text', .slice A2 l2 a2, .slice K2 kids'.length c2] 27 (0, 0)))
    have X2 := Lib.hid (blk_new1 w (.cells #[.string tag, .string key, .string text, .slice A1 l1 a1, .slice K1 kids.length c1] 27 (0, 0)) (.cells #[.string tag', .string key', .string text', .slice A2 l2 a2, .slice K2 kids'.length c2] 27 (0, 0)))
    have PA2 := Lib.hid (PA.call hb0)
    have PB2 := Lib.hid (PB.call hb0)
    have KA2 := Lib.hid (KA.call hb0)
    have KB2 := Lib.hid (KB.call hb0)
    have IH := Lib.hid ih
    have SZ : Hid (cntL kids ≤ n) := by show _ ≤ _; omega
    have LA := Lib.hid hla
    clear hb0 PA PB KA KB h1 h2 ih hz hla
    by_cases e1 : tag = tag'
    rotate_left
    · have E : Hid (trB (.mk tag key text attrs kids) (.mk tag' key' text' attrs' kids') = false) := trB_false (fun h => by cases h; exact e1 rfl)
      have q1 := str_bne _ _ e1
      clear e1
      go_enter Try.func16, Try.ntmps16
      go_wp2
      go_ret
      exact ⟨by rw [E.out]; rfl, B0.out⟩
    have q1 := str_beq _ _ e1
    by_cases e2 : key = key'
    rotate_left
    · have E : Hid (trB (.mk tag key text attrs kids) (.mk tag' key' text' attrs' kids') = false) := trB_false (fun h => by cases h; exact e2 rfl)
      have q2 := str_bne _ _ e2
      clear e1 e2
      go_enter Try.func16, Try.ntmps16
      go_wp2
      go_ret
      exact ⟨by rw [E.out]; rfl, B0.out⟩
    have q2 := str_beq _ _ e2
    by_cases e3 : text = text'
    rotate_left
    · have E : Hid (trB (.mk tag key text attrs kids) (.mk tag' key' text' attrs' kids') = false) := trB_false (fun h => by cases h; exact e3 rfl)
      have q3 := str_bne _ _ e3
      clear e1 e2 e3
      go_enter Try.func16, Try.ntmps16
      go_wp2
      go_ret
      exact ⟨by rw [E.out]; rfl, B0.out⟩
    have q3 := str_beq _ _ e3
    have Q1 := Lib.hid e1
    have Q2 := Lib.hid e2
    have Q3 := Lib.hid e3
    clear e1 e2 e3
    go_enter Try.func16, Try.ntmps16
    go_upto_region 1 with fail
    generalize (w.alloc _).alloc _ = w2 at *
    have x0 := blk_cell X1.out 0
    have x1 := blk_cell X1.out 1
    have x2 := blk_cell X1.out 2
    have x3 := blk_cell X1.out 3
    have x4 := blk_cell X1.out 4
    have y0 := blk_cell X2.out 0
    have y1 := blk_cell X2.out 1
    have y2 := blk_cell X2.out 2
    have y3 := blk_cell X2.out 3
    have y4 := blk_cell X2.out 4
    simp at x0 x1 x2 x3 x4 y0 y1 y2 y3 y4
    go_wp2_with fail
    refine (equal25 _ _ attrs attrs' w2 PA2.out PB2.out (by have := LA.out; omega)).mono ?_
    rintro e w3 ⟨rfl, hb3⟩
    have B3 := Lib.hid (B0.out.trans (hb3.mono B0.out.size))
    have X13 := Lib.hid (blk_call X1.out hb3)
    have X23 := Lib.hid (blk_call X2.out hb3)
    have KA3 := Lib.hid (KA2.out.call hb3)
    have KB3 := Lib.hid (KB2.out.call hb3)
    clear hb3 x0 x1 x2 x3 x4 y0 y1 y2 y3 y4 X1 X2 KA2 KB2 PA2 PB2
    have x4 := blk_cell X13.out 4
    have y4 := blk_cell X23.out 4
    simp at x4 y4
    by_cases e4 : attrs = attrs'
    rotate_left
    · have E : Hid (trB (.mk tag key text attrs kids) (.mk tag' key' text' attrs' kids') = false) := trB_false (fun h => by cases h; exact e4 rfl)
      have q4 : decide (attrs = attrs') = false := decide_eq_false e4
      clear e4
      rw [q4]
      go_wp2
      go_ret
      exact ⟨by rw [E.out]; rfl, B3.out⟩
    have q4 : decide (attrs = attrs') = true := decide_eq_true e4
    have Q4 := Lib.hid e4
    clear e4
    rw [q4]
    go_wp2_with fail
    refine (equalF26 n IH.out _ _ kids kids' w3 SZ.out KA3.out KB3.out).mono ?_
    rintro e w4 ⟨rfl, hb4⟩
    have B4 := Lib.hid (B3.out.trans (hb4.mono B3.out.size))
    have E : Hid (trB (.mk tag key text attrs kids) (.mk tag' key' text' attrs' kids') = tlB kids kids') := by
      by_cases e5 : kids = kids'
      · rw [tlB_true e5]
        exact trB_true (by rw [Q1.out, Q2.out, Q3.out, Q4.out, e5])
      · rw [tlB_false e5]
        exact trB_false (fun h => by cases h; exact e5 rfl)
    clear hb4
    go_wp2
    go_ret
    exact ⟨by rw [E.out]; rfl, B4.out⟩
end Go.Proofs.Ytolklphenllhpaa
