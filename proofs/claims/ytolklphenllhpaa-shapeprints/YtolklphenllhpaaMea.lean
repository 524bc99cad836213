/-
  How many nodes, how deep, how many outlets: shape.Count, Deep, Slots, porticokeep.Measure.
-/
import Derived.Test.YtolklphenllhpaaMdl
namespace Go.Proofs.Ytolklphenllhpaa
open Go.RowKit Go.PlainAid
set_option maxRecDepth 100000

set_option maxHeartbeats 12800000 in
theorem count9 {p : Nat → Prop} (n : Nat) (hn : n ≤ 1000000) : ∀ (v : Value) (t : Tr) (w : World), t.cnt ≤ n → TrW p w v t →
    Calls Try.prog 9 #[v] w fun e w' => e = .returned (.int .i64 t.cnt) ∧ Below w.heap.size w w' := by
  induction n with
  | zero =>
    intro v t w hz
    have := cnt_pos t
    omega
  | succ n ih =>
    replace ih := ih (by omega)
    intro v t w hz h
    have HA := Lib.hid h
    cases h with
    | @mk tag key text attrs kids av A c cv hbd ha hap hc hk ht =>
    have hlk := hbd.2
    clear hbd hap
    obtain ⟨A1, a1, rfl, _, _, _⟩ := ha
    have IH := Lib.hid ih
    have HK := Lib.hid hk
    have HT := Lib.hid ht
    rw [cnt_mk] at hz
    have SZ := Lib.hid hz
    clear ih hk ht hz HA
    have B0 := Lib.hid ((Below.refl _ w).alloc (Nat.le_refl _) (.cells #[.string tag, .string key, .string text, .slice A1 attrs.length a1, .slice A kids.length c] 27 (0, 0)))
    have X0 := Lib.hid (blk_new w (.cells #[.string tag, .string key, .string text, .slice A1 attrs.length a1, .slice A kids.length c] 27 (0, 0)))
    have x4 := blk_cell X0.out 4
    simp at x4
    go_enter Try.func9, Try.ntmps9
    go_wp2_with fail
    clear x4
    generalize w.alloc (.cells #[.string tag, .string key, .string text, .slice A1 attrs.length a1, .slice A kids.length c] 27 (0, 0)) = w1 at *
    go_loopw [3, 9] (fun p3 p9 wr => ∃ (j : Nat), j ≤ kids.length ∧ p3 = .int .i64 (1 + cntL (kids.take j) : Nat) ∧ p9 = .int .i64 j ∧ Hid (Below w1.heap.size w1 wr)) (fun _ p _ => kids.length - (intOf p).toNat)
    case atStart => exact ⟨0, Nat.zero_le _, rfl, rfl, Below.refl _ w1⟩
    case round =>
      obtain ⟨j, hj, rfl, rfl, BW⟩ := hrel
      by_cases hlt : j < kids.length
      · have d0 : (j : Int) < (kids.length : Int) := by omega
        have BWW := Lib.hid (B0.out.trans (BW.out.mono B0.out.size))
        obtain ⟨b1, o1, x0, x1, x2, x3, x4, rfl, _, ec, k0, k1, k2, k3, k4⟩ := HK.out j hlt
        have TA := (HT.out j hlt).call BWW.out
        rw [ec] at TA
        replace TA := Lib.hid TA
        obtain ⟨g5, y5, t5, at5, kd5, A5, n5, a5, K5, c5, et, ev⟩ := TA.out.parts
        cases ev
        clear et
        have g : ∀ (p : Addr) (v : Value), w.cell? p = some v → wr.cell? p = some v := fun p v hc => by
          rw [BWW.out.cell (World.block_lt_of_cell? w _ hc)]
          exact hc
        replace k0 := g _ _ k0
        replace k1 := g _ _ k1
        replace k2 := g _ _ k2
        replace k3 := g _ _ k3
        replace k4 := g _ _ k4
        have SK : Hid ((kids.getD j tr0).cnt ≤ n) := by
          have h1 := kid_cnt kids j hlt
          have h2 := SZ.out
          show _ ≤ n
          omega
        have CN := Lib.hid (cnt_next kids j hlt)
        have CT := Lib.hid (cntL_take kids (j + 1))
        skip
        clear g ec
        generalize kids.getD j tr0 = kj at *
        go_wp2_with fail
        have TB := Lib.hid (TA.out.call ((Below.refl _ wr).alloc (Nat.le_refl _) (.cells #[.string g5, .string y5, .string t5, .slice A5 n5 a5, .slice K5 kd5.length c5] 27 (0, 0))))
        have BX := Lib.hid (BW.out.alloc BW.out.size (.cells #[.string g5, .string y5, .string t5, .slice A5 n5 a5, .slice K5 kd5.length c5] 27 (0, 0)))
        clear k0 k1 k2 k3 k4 TA BW BWW
        generalize wr.alloc _ = w5 at *
        refine (IH.out _ _ w5 SK.out TB.out).mono ?_
        rintro e w6 ⟨rfl, hb6⟩
        have B6 := Lib.hid (BX.out.trans (hb6.mono BX.out.size))
        clear hb6 BX TB
        have hS := SZ.out
        have hN := CN.out
        have hT := CT.out
        go_wp2_with fail
        go_roundw
        case rel => exact ⟨j + 1, by omega, by go_num, by go_num, B6⟩
        case measure => simp [intOf]; omega
      · obtain rfl : j = kids.length := by omega
        rw [List.take_length]
        have B7 := Lib.hid (B0.out.trans (BW.out.mono B0.out.size))
        have hE : (Tr.mk tag key text attrs kids).cnt = 1 + cntL kids := cnt_mk _ _ _ _ _
        go_wp2
        go_ret
        exact ⟨by rw [hE]; rfl, B7.out⟩

set_option maxHeartbeats 12800000 in
theorem deep10 {p : Nat → Prop} (n : Nat) (hn : n ≤ 1000000) : ∀ (v : Value) (t : Tr) (w : World), t.cnt ≤ n → TrW p w v t →
    Calls Try.prog 10 #[v] w fun e w' => e = .returned (.int .i64 t.dep) ∧ Below w.heap.size w w' := by
  induction n with
  | zero =>
    intro v t w hz
    have := cnt_pos t
    omega
  | succ n ih =>
    replace ih := ih (by omega)
    intro v t w hz h
    have HA := Lib.hid h
    cases h with
    | @mk tag key text attrs kids av A c cv hbd ha hap hc hk ht =>
    have hlk := hbd.2
    clear hbd hap
    obtain ⟨A1, a1, rfl, _, _, _⟩ := ha
    have IH := Lib.hid ih
    have HK := Lib.hid hk
    have HT := Lib.hid ht
    rw [cnt_mk] at hz
    have SZ := Lib.hid hz
    clear ih hk ht hz HA
    have B0 := Lib.hid ((Below.refl _ w).alloc (Nat.le_refl _) (.cells #[.string tag, .string key, .string text, .slice A1 attrs.length a1, .slice A kids.length c] 27 (0, 0)))
    have X0 := Lib.hid (blk_new w (.cells #[.string tag, .string key, .string text, .slice A1 attrs.length a1, .slice A kids.length c] 27 (0, 0)))
    have x4 := blk_cell X0.out 4
    simp at x4
    go_enter Try.func10, Try.ntmps10
    go_wp2_with fail
    clear x4
    generalize w.alloc (.cells #[.string tag, .string key, .string text, .slice A1 attrs.length a1, .slice A kids.length c] 27 (0, 0)) = w1 at *
    go_loopw [3, 9] (fun p3 p9 wr => ∃ (j : Nat), j ≤ kids.length ∧ p3 = .int .i64 (depL (kids.take j) : Nat) ∧ p9 = .int .i64 j ∧ Hid (Below w1.heap.size w1 wr)) (fun _ p _ => kids.length - (intOf p).toNat)
    case atStart => exact ⟨0, Nat.zero_le _, rfl, rfl, Below.refl _ w1⟩
    case round =>
      obtain ⟨j, hj, rfl, rfl, BW⟩ := hrel
      by_cases hlt : j < kids.length
      · have d0 : (j : Int) < (kids.length : Int) := by omega
        have BWW := Lib.hid (B0.out.trans (BW.out.mono B0.out.size))
        obtain ⟨b1, o1, x0, x1, x2, x3, x4, rfl, _, ec, k0, k1, k2, k3, k4⟩ := HK.out j hlt
        have TA := (HT.out j hlt).call BWW.out
        rw [ec] at TA
        replace TA := Lib.hid TA
        obtain ⟨g5, y5, t5, at5, kd5, A5, n5, a5, K5, c5, et, ev⟩ := TA.out.parts
        cases ev
        clear et
        have g : ∀ (p : Addr) (v : Value), w.cell? p = some v → wr.cell? p = some v := fun p v hc => by
          rw [BWW.out.cell (World.block_lt_of_cell? w _ hc)]
          exact hc
        replace k0 := g _ _ k0
        replace k1 := g _ _ k1
        replace k2 := g _ _ k2
        replace k3 := g _ _ k3
        replace k4 := g _ _ k4
        have SK : Hid ((kids.getD j tr0).cnt ≤ n) := by
          have h1 := kid_cnt kids j hlt
          have h2 := SZ.out
          show _ ≤ n
          omega
        have CN := Lib.hid (cnt_next kids j hlt)
        have CT := Lib.hid (cntL_take kids (j + 1))
        have DN := Lib.hid (dep_next kids j hlt)
        have DT := Lib.hid (dep_take kids (j + 1))
        clear g ec
        generalize kids.getD j tr0 = kj at *
        go_wp2_with fail
        have TB := Lib.hid (TA.out.call ((Below.refl _ wr).alloc (Nat.le_refl _) (.cells #[.string g5, .string y5, .string t5, .slice A5 n5 a5, .slice K5 kd5.length c5] 27 (0, 0))))
        have BX := Lib.hid (BW.out.alloc BW.out.size (.cells #[.string g5, .string y5, .string t5, .slice A5 n5 a5, .slice K5 kd5.length c5] 27 (0, 0)))
        clear k0 k1 k2 k3 k4 TA BW BWW
        generalize wr.alloc _ = w5 at *
        refine (IH.out _ _ w5 SK.out TB.out).mono ?_
        rintro e w6 ⟨rfl, hb6⟩
        have B6 := Lib.hid (BX.out.trans (hb6.mono BX.out.size))
        clear hb6 BX TB
        have hS := SZ.out
        have hN := DN.out
        have hT := DT.out
        go_wp2_with fail
        go_roundw
        case rel => exact ⟨j + 1, by omega, by go_num, by go_num, B6⟩
        case measure => simp [intOf]; omega
      · obtain rfl : j = kids.length := by omega
        rw [List.take_length]
        have B7 := Lib.hid (B0.out.trans (BW.out.mono B0.out.size))
        have hE : (Tr.mk tag key text attrs kids).dep = 1 + depL kids := dep_mk _ _ _ _ _
        have hS := SZ.out
        have hD := depL_cnt kids
        go_wp2
        go_ret
        exact ⟨by rw [hE]; first | rfl | go_num, B7.out⟩

set_option maxHeartbeats 12800000 in
theorem slots11 {p : Nat → Prop} (n : Nat) (hn : n ≤ 1000000) : ∀ (v : Value) (t : Tr) (w : World), t.cnt ≤ n → TrW p w v t →
    Calls Try.prog 11 #[v] w fun e w' => e = .returned (.int .i64 t.slt) ∧ Below w.heap.size w w' := by
  induction n with
  | zero =>
    intro v t w hz
    have := cnt_pos t
    omega
  | succ n ih =>
    replace ih := ih (by omega)
    intro v t w hz h
    have HA := Lib.hid h
    cases h with
    | @mk tag key text attrs kids av A c cv hbd ha hap hc hk ht =>
    have hlk := hbd.2
    clear hbd hap
    obtain ⟨A1, a1, rfl, _, _, _⟩ := ha
    have IH := Lib.hid ih
    have HK := Lib.hid hk
    have HT := Lib.hid ht
    rw [cnt_mk] at hz
    have SZ := Lib.hid hz
    clear ih hk ht hz HA
    have B0 := Lib.hid ((Below.refl _ w).alloc (Nat.le_refl _) (.cells #[.string tag, .string key, .string text, .slice A1 attrs.length a1, .slice A kids.length c] 27 (0, 0)))
    have X0 := Lib.hid (blk_new w (.cells #[.string tag, .string key, .string text, .slice A1 attrs.length a1, .slice A kids.length c] 27 (0, 0)))
    have x4 := blk_cell X0.out 4
    have x0 := blk_cell X0.out 0
    simp at x4 x0
    go_enter Try.func11, Try.ntmps11
    by_cases eo : tag = outT
    all_goals
      (first | have qo := str_beq _ _ eo | have qo := str_bne _ _ eo)
      have EO := Lib.hid eo
      rw [show outT.toList = [111, 117, 116, 108, 101, 116] by rw [Lib.toList_data]; rfl] at qo
      clear eo
      go_wp2_with fail
      clear x4 x0 qo
      generalize w.alloc (.cells #[.string tag, .string key, .string text, .slice A1 attrs.length a1, .slice A kids.length c] 27 (0, 0)) = w1 at *

    · go_loopw [3, 12] (fun p3 p12 wr => ∃ (j : Nat), j ≤ kids.length ∧ p3 = .int .i64 (1 + sltL (kids.take j) : Nat) ∧ p12 = .int .i64 j ∧ Hid (Below w1.heap.size w1 wr)) (fun _ p _ => kids.length - (intOf p).toNat)
      case atStart => exact ⟨0, Nat.zero_le _, rfl, rfl, Below.refl _ w1⟩
      case round =>
        obtain ⟨j, hj, rfl, rfl, BW⟩ := hrel
        by_cases hlt : j < kids.length
        · have d0 : (j : Int) < (kids.length : Int) := by omega
          have BWW := Lib.hid (B0.out.trans (BW.out.mono B0.out.size))
          obtain ⟨b1, o1, x0, x1, x2, x3, x4, rfl, _, ec, k0, k1, k2, k3, k4⟩ := HK.out j hlt
          have TA := (HT.out j hlt).call BWW.out
          rw [ec] at TA
          replace TA := Lib.hid TA
          obtain ⟨g5, y5, t5, at5, kd5, A5, n5, a5, K5, c5, et, ev⟩ := TA.out.parts
          cases ev
          clear et
          have g : ∀ (p : Addr) (v : Value), w.cell? p = some v → wr.cell? p = some v := fun p v hc => by
            rw [BWW.out.cell (World.block_lt_of_cell? w _ hc)]
            exact hc
          replace k0 := g _ _ k0
          replace k1 := g _ _ k1
          replace k2 := g _ _ k2
          replace k3 := g _ _ k3
          replace k4 := g _ _ k4
          have SK : Hid ((kids.getD j tr0).cnt ≤ n) := by
            have h1 := kid_cnt kids j hlt
            have h2 := SZ.out
            show _ ≤ n
            omega
          have CN := Lib.hid (cnt_next kids j hlt)
          have CT := Lib.hid (cntL_take kids (j + 1))
          have DN := Lib.hid (slt_next kids j hlt)
          have DT := Lib.hid (slt_take kids (j + 1))
          clear g ec
          generalize kids.getD j tr0 = kj at *
          go_wp2_with fail
          have TB := Lib.hid (TA.out.call ((Below.refl _ wr).alloc (Nat.le_refl _) (.cells #[.string g5, .string y5, .string t5, .slice A5 n5 a5, .slice K5 kd5.length c5] 27 (0, 0))))
          have BX := Lib.hid (BW.out.alloc BW.out.size (.cells #[.string g5, .string y5, .string t5, .slice A5 n5 a5, .slice K5 kd5.length c5] 27 (0, 0)))
          clear k0 k1 k2 k3 k4 TA BW BWW
          generalize wr.alloc _ = w5 at *
          refine (IH.out _ _ w5 SK.out TB.out).mono ?_
          rintro e w6 ⟨rfl, hb6⟩
          have B6 := Lib.hid (BX.out.trans (hb6.mono BX.out.size))
          clear hb6 BX TB
          have hS := SZ.out
          have hN := DN.out
          have hT := DT.out
          go_wp2_with fail
          go_roundw
          case rel => exact ⟨j + 1, by omega, by go_num, by go_num, B6⟩
          case measure => simp [intOf]; omega
        · obtain rfl : j = kids.length := by omega
          rw [List.take_length]
          have B7 := Lib.hid (B0.out.trans (BW.out.mono B0.out.size))
          have hE : (Tr.mk tag key text attrs kids).slt = 1 + sltL kids := by rw [slt_mk, if_pos EO.out]
          go_wp2
          go_ret
          exact ⟨by rw [hE]; first | rfl | go_num, B7.out⟩

    · go_loopw [3, 12] (fun p3 p12 wr => ∃ (j : Nat), j ≤ kids.length ∧ p3 = .int .i64 (0 + sltL (kids.take j) : Nat) ∧ p12 = .int .i64 j ∧ Hid (Below w1.heap.size w1 wr)) (fun _ p _ => kids.length - (intOf p).toNat)
      case atStart => exact ⟨0, Nat.zero_le _, rfl, rfl, Below.refl _ w1⟩
      case round =>
        obtain ⟨j, hj, rfl, rfl, BW⟩ := hrel
        by_cases hlt : j < kids.length
        · have d0 : (j : Int) < (kids.length : Int) := by omega
          have BWW := Lib.hid (B0.out.trans (BW.out.mono B0.out.size))
          obtain ⟨b1, o1, x0, x1, x2, x3, x4, rfl, _, ec, k0, k1, k2, k3, k4⟩ := HK.out j hlt
          have TA := (HT.out j hlt).call BWW.out
          rw [ec] at TA
          replace TA := Lib.hid TA
          obtain ⟨g5, y5, t5, at5, kd5, A5, n5, a5, K5, c5, et, ev⟩ := TA.out.parts
          cases ev
          clear et
          have g : ∀ (p : Addr) (v : Value), w.cell? p = some v → wr.cell? p = some v := fun p v hc => by
            rw [BWW.out.cell (World.block_lt_of_cell? w _ hc)]
            exact hc
          replace k0 := g _ _ k0
          replace k1 := g _ _ k1
          replace k2 := g _ _ k2
          replace k3 := g _ _ k3
          replace k4 := g _ _ k4
          have SK : Hid ((kids.getD j tr0).cnt ≤ n) := by
            have h1 := kid_cnt kids j hlt
            have h2 := SZ.out
            show _ ≤ n
            omega
          have CN := Lib.hid (cnt_next kids j hlt)
          have CT := Lib.hid (cntL_take kids (j + 1))
          have DN := Lib.hid (slt_next kids j hlt)
          have DT := Lib.hid (slt_take kids (j + 1))
          clear g ec
          generalize kids.getD j tr0 = kj at *
          go_wp2_with fail
          have TB := Lib.hid (TA.out.call ((Below.refl _ wr).alloc (Nat.le_refl _) (.cells #[.string g5, .string y5, .string t5, .slice A5 n5 a5, .slice K5 kd5.length c5] 27 (0, 0))))
          have BX := Lib.hid (BW.out.alloc BW.out.size (.cells #[.string g5, .string y5, .string t5, .slice A5 n5 a5, .slice K5 kd5.length c5] 27 (0, 0)))
          clear k0 k1 k2 k3 k4 TA BW BWW
          generalize wr.alloc _ = w5 at *
          refine (IH.out _ _ w5 SK.out TB.out).mono ?_
          rintro e w6 ⟨rfl, hb6⟩
          have B6 := Lib.hid (BX.out.trans (hb6.mono BX.out.size))
          clear hb6 BX TB
          have hS := SZ.out
          have hN := DN.out
          have hT := DT.out
          go_wp2_with fail
          go_roundw
          case rel => exact ⟨j + 1, by omega, by go_num, by go_num, B6⟩
          case measure => simp [intOf]; omega
        · obtain rfl : j = kids.length := by omega
          rw [List.take_length]
          have B7 := Lib.hid (B0.out.trans (BW.out.mono B0.out.size))
          have hE : (Tr.mk tag key text attrs kids).slt = 0 + sltL kids := by rw [slt_mk, if_neg EO.out]
          go_wp2
          go_ret
          exact ⟨by rw [hE]; first | rfl | go_num, B7.out⟩

set_option maxHeartbeats 12800000 in
theorem measure14 {p : Nat → Prop} (n : Nat) (hn : n ≤ 1000000) : ∀ (v : Value) (t : Tr) (w : World), t.cnt ≤ n → TrW p w v t →
    Calls Try.prog 14 #[v] w fun e w' => e = .returned (.tuple #[.int .i64 t.cnt, .int .i64 t.dep, .int .i64 t.slt]) ∧ Below w.heap.size w w' := by
  induction n with
  | zero =>
    intro v t w hz
    have := cnt_pos t
    omega
  | succ n ih =>
    replace ih := ih (by omega)
    intro v t w hz h
    have HA := Lib.hid h
    cases h with
    | @mk tag key text attrs kids av A c cv hbd ha hap hc hk ht =>
    have hlk := hbd.2
    clear hbd hap
    obtain ⟨A1, a1, rfl, _, _, _⟩ := ha
    have IH := Lib.hid ih
    have HK := Lib.hid hk
    have HT := Lib.hid ht
    rw [cnt_mk] at hz
    have SZ := Lib.hid hz
    clear ih hk ht hz HA
    have B0 := Lib.hid ((Below.refl _ w).alloc (Nat.le_refl _) (.cells #[.string tag, .string key, .string text, .slice A1 attrs.length a1, .slice A kids.length c] 27 (0, 0)))
    have X0 := Lib.hid (blk_new w (.cells #[.string tag, .string key, .string text, .slice A1 attrs.length a1, .slice A kids.length c] 27 (0, 0)))
    have x4 := blk_cell X0.out 4
    have x0 := blk_cell X0.out 0
    simp at x4 x0
    go_enter Try.func14, Try.ntmps14
    by_cases eo : tag = outT
    all_goals
      (first | have qo := str_beq _ _ eo | have qo := str_bne _ _ eo)
      have EO := Lib.hid eo
      rw [show outT.toList = [111, 117, 116, 108, 101, 116] by rw [Lib.toList_data]; rfl] at qo
      clear eo
      go_wp2_with fail
      clear x4 x0 qo
      generalize w.alloc (.cells #[.string tag, .string key, .string text, .slice A1 attrs.length a1, .slice A kids.length c] 27 (0, 0)) = w1 at *

    · go_loopw [5, 6, 7, 19] (fun p5 p6 p7 p19 wr => ∃ (j : Nat), j ≤ kids.length ∧ p5 = .int .i64 (1 + cntL (kids.take j) : Nat) ∧ p6 = .int .i64 (depL (kids.take j) : Nat) ∧ p7 = .int .i64 (1 + sltL (kids.take j) : Nat) ∧ p19 = .int .i64 j ∧ Hid (Below w1.heap.size w1 wr)) (fun _ _ _ p _ => kids.length - (intOf p).toNat)
      case atStart => exact ⟨0, Nat.zero_le _, rfl, rfl, rfl, rfl, Below.refl _ w1⟩
      case round =>
        obtain ⟨j, hj, rfl, rfl, rfl, rfl, BW⟩ := hrel
        by_cases hlt : j < kids.length
        · have d0 : (j : Int) < (kids.length : Int) := by omega
          have BWW := Lib.hid (B0.out.trans (BW.out.mono B0.out.size))
          obtain ⟨b1, o1, x0, x1, x2, x3, x4, rfl, _, ec, k0, k1, k2, k3, k4⟩ := HK.out j hlt
          have TA := (HT.out j hlt).call BWW.out
          rw [ec] at TA
          replace TA := Lib.hid TA
          obtain ⟨g5, y5, t5, at5, kd5, A5, n5, a5, K5, c5, et, ev⟩ := TA.out.parts
          cases ev
          clear et
          have g : ∀ (p : Addr) (v : Value), w.cell? p = some v → wr.cell? p = some v := fun p v hc => by
            rw [BWW.out.cell (World.block_lt_of_cell? w _ hc)]
            exact hc
          replace k0 := g _ _ k0
          replace k1 := g _ _ k1
          replace k2 := g _ _ k2
          replace k3 := g _ _ k3
          replace k4 := g _ _ k4
          have SK : Hid ((kids.getD j tr0).cnt ≤ n) := by
            have h1 := kid_cnt kids j hlt
            have h2 := SZ.out
            show _ ≤ n
            omega
          have CN := Lib.hid (cnt_next kids j hlt)
          have CT := Lib.hid (cntL_take kids (j + 1))
          have DN := Lib.hid (dep_next kids j hlt)
          have DT := Lib.hid (dep_take kids (j + 1))
          have LN := Lib.hid (slt_next kids j hlt)
          have LT := Lib.hid (slt_take kids (j + 1))
          clear g ec
          generalize kids.getD j tr0 = kj at *
          go_wp2_with fail
          have TB := Lib.hid (TA.out.call ((Below.refl _ wr).alloc (Nat.le_refl _) (.cells #[.string g5, .string y5, .string t5, .slice A5 n5 a5, .slice K5 kd5.length c5] 27 (0, 0))))
          have BX := Lib.hid (BW.out.alloc BW.out.size (.cells #[.string g5, .string y5, .string t5, .slice A5 n5 a5, .slice K5 kd5.length c5] 27 (0, 0)))
          clear k0 k1 k2 k3 k4 TA BW BWW
          generalize wr.alloc _ = w5 at *
          refine (IH.out _ _ w5 SK.out TB.out).mono ?_
          rintro e w6 ⟨rfl, hb6⟩
          have B6 := Lib.hid (BX.out.trans (hb6.mono BX.out.size))
          clear hb6 BX TB
          have hS := SZ.out
          have hN := CN.out
          have hT := CT.out
          have hN1 := DN.out
          have hT1 := DT.out
          have hN2 := LN.out
          have hT2 := LT.out
          go_wp2_with fail
          go_roundw
          case rel => exact ⟨j + 1, by omega, by go_num, by go_num, by go_num, by go_num, B6⟩
          case measure => simp [intOf]; omega
        · obtain rfl : j = kids.length := by omega
          rw [List.take_length]
          have B7 := Lib.hid (B0.out.trans (BW.out.mono B0.out.size))
          have hE1 : (Tr.mk tag key text attrs kids).cnt = 1 + cntL kids := cnt_mk _ _ _ _ _
          have hE2 : (Tr.mk tag key text attrs kids).dep = 1 + depL kids := dep_mk _ _ _ _ _
          have hE : (Tr.mk tag key text attrs kids).slt = 1 + sltL kids := by rw [slt_mk, if_pos EO.out]
          have hS := SZ.out
          have hD := depL_cnt kids
          go_wp2
          go_ret3
          exact ⟨by rw [hE1, hE2, hE, Nat.add_comm 1 (depL kids)]; rfl, B7.out⟩

    · go_loopw [5, 6, 7, 19] (fun p5 p6 p7 p19 wr => ∃ (j : Nat), j ≤ kids.length ∧ p5 = .int .i64 (1 + cntL (kids.take j) : Nat) ∧ p6 = .int .i64 (depL (kids.take j) : Nat) ∧ p7 = .int .i64 (0 + sltL (kids.take j) : Nat) ∧ p19 = .int .i64 j ∧ Hid (Below w1.heap.size w1 wr)) (fun _ _ _ p _ => kids.length - (intOf p).toNat)
      case atStart => exact ⟨0, Nat.zero_le _, rfl, rfl, rfl, rfl, Below.refl _ w1⟩
      case round =>
        obtain ⟨j, hj, rfl, rfl, rfl, rfl, BW⟩ := hrel
        by_cases hlt : j < kids.length
        · have d0 : (j : Int) < (kids.length : Int) := by omega
          have BWW := Lib.hid (B0.out.trans (BW.out.mono B0.out.size))
          obtain ⟨b1, o1, x0, x1, x2, x3, x4, rfl, _, ec, k0, k1, k2, k3, k4⟩ := HK.out j hlt
          have TA := (HT.out j hlt).call BWW.out
          rw [ec] at TA
          replace TA := Lib.hid TA
          obtain ⟨g5, y5, t5, at5, kd5, A5, n5, a5, K5, c5, et, ev⟩ := TA.out.parts
          cases ev
          clear et
          have g : ∀ (p : Addr) (v : Value), w.cell? p = some v → wr.cell? p = some v := fun p v hc => by
            rw [BWW.out.cell (World.block_lt_of_cell? w _ hc)]
            exact hc
          replace k0 := g _ _ k0
          replace k1 := g _ _ k1
          replace k2 := g _ _ k2
          replace k3 := g _ _ k3
          replace k4 := g _ _ k4
          have SK : Hid ((kids.getD j tr0).cnt ≤ n) := by
            have h1 := kid_cnt kids j hlt
            have h2 := SZ.out
            show _ ≤ n
            omega
          have CN := Lib.hid (cnt_next kids j hlt)
          have CT := Lib.hid (cntL_take kids (j + 1))
          have DN := Lib.hid (dep_next kids j hlt)
          have DT := Lib.hid (dep_take kids (j + 1))
          have LN := Lib.hid (slt_next kids j hlt)
          have LT := Lib.hid (slt_take kids (j + 1))
          clear g ec
          generalize kids.getD j tr0 = kj at *
          go_wp2_with fail
          have TB := Lib.hid (TA.out.call ((Below.refl _ wr).alloc (Nat.le_refl _) (.cells #[.string g5, .string y5, .string t5, .slice A5 n5 a5, .slice K5 kd5.length c5] 27 (0, 0))))
          have BX := Lib.hid (BW.out.alloc BW.out.size (.cells #[.string g5, .string y5, .string t5, .slice A5 n5 a5, .slice K5 kd5.length c5] 27 (0, 0)))
          clear k0 k1 k2 k3 k4 TA BW BWW
          generalize wr.alloc _ = w5 at *
          refine (IH.out _ _ w5 SK.out TB.out).mono ?_
          rintro e w6 ⟨rfl, hb6⟩
          have B6 := Lib.hid (BX.out.trans (hb6.mono BX.out.size))
          clear hb6 BX TB
          have hS := SZ.out
          have hN := CN.out
          have hT := CT.out
          have hN1 := DN.out
          have hT1 := DT.out
          have hN2 := LN.out
          have hT2 := LT.out
          go_wp2_with fail
          go_roundw
          case rel => exact ⟨j + 1, by omega, by go_num, by go_num, by go_num, by go_num, B6⟩
          case measure => simp [intOf]; omega
        · obtain rfl : j = kids.length := by omega
          rw [List.take_length]
          have B7 := Lib.hid (B0.out.trans (BW.out.mono B0.out.size))
          have hE1 : (Tr.mk tag key text attrs kids).cnt = 1 + cntL kids := cnt_mk _ _ _ _ _
          have hE2 : (Tr.mk tag key text attrs kids).dep = 1 + depL kids := dep_mk _ _ _ _ _
          have hE : (Tr.mk tag key text attrs kids).slt = 0 + sltL kids := by rw [slt_mk, if_neg EO.out]
          have hS := SZ.out
          have hD := depL_cnt kids
          go_wp2
          go_ret3
          exact ⟨by rw [hE1, hE2, hE, Nat.add_comm 1 (depL kids)]; rfl, B7.out⟩
end Go.Proofs.Ytolklphenllhpaa
