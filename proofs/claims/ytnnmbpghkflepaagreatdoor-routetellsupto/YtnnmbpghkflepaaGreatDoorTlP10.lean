/-
  Put together: Enc, Same, Shelf, Take.
-/
import Derived.Test.YtnnmbpghkflepaaGreatDoorTlP02
import Derived.Deep.RegionHeld3
import Derived.Deep.RegionLaw
import Derived.Test.YtnnmbpghkflepaaGreatDoorTlP04
import Derived.Shelf.Strings.OnBuilder
import Derived.Test.YtnnmbpghkflepaaGreatDoorProg
namespace Go.Proofs.YtnnmbpghkflepaaGreatDoor
open Go.RowKit Go.PlainAid
set_option maxRecDepth 100000

theorem enc_next (s : ByteArray) (k : Nat) (h : k < s.size) : encL ((bs s).take (k + 1)) = encL ((bs s).take k) ++ encI (bt s k) := by
  rw [← bs_at]
  have h' : k < (bs s).length := by rw [bs_len]; exact h
  rw [List.take_add_one, encL_append]
  simp [List.getD, h', encL]
theorem enc_all (s : ByteArray) : encL ((bs s).take s.size) = encL (bs s) := by rw [List.take_of_length_le (by rw [bs_len]; omega)]
theorem enc_len (s : ByteArray) (k : Nat) : (encL ((bs s).take k)).length ≤ 3 * s.size := by
  have := encL_len ((bs s).take k)
  rw [List.length_take, bs_len] at this
  omega

theorem and15 (c : Int) (h0 : 0 ≤ c) (h1 : c ≤ 255) : bits BinOp.and IntKind.u8 c 15 = c % 16 := by
  rw [u8_and _ _ h0 (by omega) (by omega) (by omega)]
  have : (15 : Int).toNat = 15 := rfl
  rw [this, nat_mask4]
  omega
theorem dig_at (n : Int) (h : 0 ≤ n ∧ n < 16) : bt ⟨#[48, 49, 50, 51, 52, 53, 54, 55, 56, 57, 65, 66, 67, 68, 69, 70]⟩ n.toNat = dg n := by
  obtain ⟨m, rfl⟩ := Int.eq_ofNat_of_zero_le h.1
  have hm : m < 16 := by omega
  have key : ∀ m : Fin 16, bt ⟨#[48, 49, 50, 51, 52, 53, 54, 55, 56, 57, 65, 66, 67, 68, 69, 70]⟩ m.val = dg (m.val : Int) := by decide
  exact key ⟨m, hm⟩

set_option maxHeartbeats 1600000 in
theorem encodeP (s : ByteArray) (w : World) (hs : s.size ≤ 100000000) : Calls Tryz.prog 99 #[.string s] w fun e w' => e = .returned (.string (encS s)) ∧ Below w.heap.size w w' := by
  have gb := get_bt s
  go_enter Tryz.func99, Tryz.ntmps99
  go_wp2_with (at_make; refine wpList_mk _ rfl _ _ rfl _ s.size rfl rfl rfl (by omega) ?_)
  intro v0 w0 h0
  have H0 := Lib.hid h0
  clear h0
  go_wp2_with fail
  go_loopw [3, 11] (fun v i wr => ∃ k : Nat, k ≤ s.size ∧ i = .int .i64 k ∧ Own w.heap.size w v (encL ((bs s).take k)) wr) (fun _ i _ => s.size - (intOf i).toNat)
  case atStart => exact ⟨0, Nat.zero_le _, rfl, H0.out⟩
  case round =>
    obtain ⟨k, hk, rfl, hown⟩ := hrel
    have HO := Lib.hid hown
    clear hown
    have eb : Hid ((encL ((bs s).take k)).length ≤ 1000000000) := by have := enc_len s k; show _ ≤ _; omega
    by_cases hlt : k < s.size
    · have c0 : (k : Int) < (s.size : Int) := by omega
      by_cases hp : pl (bt s k) = true
      · go_wp2_with (first | (go_at_call 109; refine (plainP _ _).mono ?_; rintro e w' ⟨rfl, rfl⟩; rw [hp]) | (at_builtin; refine wpList_app _ rfl (.tmp 19) (.tmp 21) rfl w.heap.size w _ _ rfl (HO.out.alloc _) ?b1 wr.heap.size 1 1 [bt s k] rfl rfl (by omega) (heap_alloc_new _ _) ?_))
        case b1 => exact eb.out
        intro v1 w1 h1
        have H1 : Hid (Own w.heap.size w v1 (encL ((bs s).take (k + 1))) w1) := by rw [enc_next s k hlt, encI, if_pos hp]; exact h1
        clear h1
        go_wp2_with fail
        go_roundw
        case rel => exact ⟨k + 1, by omega, by go_num, H1.out⟩
        case measure => simp [intOf]; omega
      · have hp : pl (bt s k) = false := by simpa using hp
        go_wp2_with (first | (go_at_call 109; refine (plainP _ _).mono ?_; rintro e w' ⟨rfl, rfl⟩; rw [hp]))
        have gd := get_bt ⟨#[48, 49, 50, 51, 52, 53, 54, 55, 56, 57, 65, 66, 67, 68, 69, 70]⟩
        have q0 := bt_nonneg s k
        have q1 := bt_le s k
        have a1 : bits BinOp.and IntKind.u8 (bt s k) 15 = bt s k % 16 := and15 _ q0 q1
        have a2 : 0 ≤ bt s k / 16 ∧ bt s k / 16 < 16 := by omega
        have a3 : 0 ≤ bt s k % 16 ∧ bt s k % 16 < 16 := by omega
        have a4 := dig_at (bt s k / 16) a2
        have a5 := dig_at (bt s k % 16) a3
        go_region_law (refine step_app _ (by rfl) (.tmp 23) (.tmp 30) rfl w.heap.size w _ _ rfl ((HO.out.alloc _).drew) eb.out wr.heap.size 3 3 [37, dg (bt s k / 16), dg (bt s k % 16)] rfl rfl (by omega) (heap_alloc_new _ _) ?_; intro v1 w1 h1; have H1 := Lib.hid h1; clear h1)
        all_goals
          go_wp2_with fail
          go_roundw
          case rel => exact ⟨k + 1, by omega, by go_num, by rw [enc_next s k hlt, encI, if_neg (by simp [hp])]; exact H1.out⟩
          case measure => simp [intOf]; omega
    · obtain rfl : k = s.size := by omega
      have hcv := own_text HO.out
      rw [enc_all] at hcv
      go_wp2
      go_ret
      exact ⟨rfl, HO.out.2.1⟩
end Go.Proofs.YtnnmbpghkflepaaGreatDoor

namespace Go.Proofs.YtnnmbpghkflepaaGreatDoor
open Go.RowKit Go.PlainAid
set_option maxRecDepth 100000

theorem take_eq_next {α : Type} [Inhabited α] {a b : List α} {k : Nat} (h : a.take k = b.take k) (h1 : k < a.length) (h2 : k < b.length) (he : a.getD k default = b.getD k default) : a.take (k + 1) = b.take (k + 1) := by
  rw [List.take_add_one, List.take_add_one, h]
  simp only [List.getD, List.getElem?_eq_getElem h1, List.getElem?_eq_getElem h2, Option.getD_some] at he
  rw [List.getElem?_eq_getElem h1, List.getElem?_eq_getElem h2, he]
theorem ne_at {α : Type} [Inhabited α] {a b : List α} {k : Nat} (he : ¬ a.getD k default = b.getD k default) : ¬ a = b := fun h => he (by rw [h])
theorem str_beq (s t : ByteArray) (h : s = t) : (s.toList == t.toList) = true := by rw [h]; simp
theorem str_bne (s t : ByteArray) (h : ¬ s = t) : (s.toList == t.toList) = false := by rw [bs_eq]; exact decide_eq_false h

theorem pr_beq (s t : Pr) (h : s = t) : (s.1.toList == t.1.toList) = true ∧ (s.2.toList == t.2.toList) = true := by rw [h]; simp
theorem pr_bne (s t : Pr) (h : ¬ s = t) : (s.1.toList == t.1.toList) = false ∨ ((s.1.toList == t.1.toList) = true ∧ (s.2.toList == t.2.toList) = false) := by
  by_cases h1 : s.1 = t.1
  · exact Or.inr ⟨str_beq _ _ h1, str_bne _ _ (fun h2 => h (Prod.ext h1 h2))⟩
  · exact Or.inl (str_bne _ _ h1)

set_option maxHeartbeats 1600000 in
theorem sameS (v1 v2 : Value) (a b : List ByteArray) (w : World) (h1 : Ss w v1 a) (h2 : Ss w v2 b) (hz : a.length ≤ 1000000000) :
    Calls Tryz.prog 18 #[v1, v2] w fun e w' => e = .returned (.bool (decide (a = b))) ∧ Below w.heap.size w w' := by
  obtain ⟨A, cap, rfl, _, _, hc⟩ := h1
  obtain ⟨A2, cap2, rfl, _, _, hc2⟩ := h2
  have HC := Lib.hid hc
  have HC2 := Lib.hid hc2
  clear hc hc2
  by_cases hl : a.length = b.length
  · have HL := Lib.hid hl
    have c0 : ((a.length : Int) == (b.length : Int)) = true := by simp; omega
    clear hl
    go_enter Tryz.func18, Tryz.ntmps18
    go_wp2_with fail
    (try rw [c0])
    clear c0
    go_loopw [5] (fun i wr => ∃ (k : Nat), k ≤ a.length ∧ i = .int .i64 k ∧ a.take k = b.take k ∧ Below w.heap.size w wr) (fun i _ => a.length - (intOf i).toNat)
    case atStart => exact ⟨0, Nat.zero_le _, rfl, rfl, Below.refl _ _⟩
    case round =>
      obtain ⟨k, hk, rfl, ht, hbw⟩ := hrel
      have HT := Lib.hid ht
      have HW := Lib.hid hbw
      have hl2 := HL.out
      clear ht hbw
      by_cases hlt : k < a.length
      · have d0 : (k : Int) < (a.length : Int) := by omega
        have d1 : (k : Int) < (b.length : Int) := by omega
        have HX := Lib.hid (take_eq_next HT.out hlt (by omega))
        have HY := Lib.hid (@ne_at _ _ a b k)
        obtain ⟨x, o, rfl, hcell⟩ := HC.out k hlt
        obtain ⟨x2, o2, rfl, hcell2⟩ := HC2.out k (by omega)
        have g1 : wr.cell? ⟨x, o + k, none⟩ = some (.string (a.getD k default)) := by rw [HW.out.cell (World.block_lt_of_cell? _ _ hcell)]; exact hcell
        have g2 : wr.cell? ⟨x2, o2 + k, none⟩ = some (.string (b.getD k default)) := by rw [HW.out.cell (World.block_lt_of_cell? _ _ hcell2)]; exact hcell2
        clear hcell hcell2
        clear hl2
        generalize a.getD k default = s at *
        generalize b.getD k default = t at *
        by_cases hst : s = t
        · have q1 := str_beq s t hst
          have HST := Lib.hid hst
          clear hst
          go_wp2_with fail
          go_region
          go_wp2_with fail
          go_roundw
          case rel => exact ⟨k + 1, by omega, by go_num, HX.out HST.out, HW.out.drew⟩
          case measure => simp [intOf]; omega
        · have q1 := str_bne s t hst
          have e0 : decide (a = b) = false := decide_eq_false (HY.out hst)
          have E0 := Lib.hid e0
          clear e0 hst HX HY
          go_wp2_with fail
          go_region
          go_wp2
          rw [E0.out]
          go_ret
          exact ⟨rfl, HW.out.drew⟩
      · obtain rfl : k = a.length := by omega
        have e0 : decide (a = b) = true := by
          have := HT.out
          rw [List.take_length, hl2, List.take_length] at this
          exact decide_eq_true this
        have E0 := Lib.hid e0
        clear e0 hl2
        go_wp2
        rw [E0.out]
        go_ret
        exact ⟨rfl, HW.out⟩
  · have c0 : ¬ (a.length : Int) = (b.length : Int) := by omega
    have c1 : ((a.length : Int) == (b.length : Int)) = false := by simpa using c0
    have e0 : decide (a = b) = false := decide_eq_false (fun h => hl (by rw [h]))
    have E0 := Lib.hid e0
    clear e0
    go_enter Tryz.func18, Tryz.ntmps18
    go_wp2
    rw [E0.out]
    go_ret
    exact ⟨rfl, Below.refl _ _⟩

set_option maxHeartbeats 1600000 in
theorem sameP (v1 v2 : Value) (a b : List Pr) (w : World) (h1 : Ps w v1 a) (h2 : Ps w v2 b) (hz : a.length ≤ 1000000000) :
    Calls Tryz.prog 13 #[v1, v2] w fun e w' => e = .returned (.bool (decide (a = b))) ∧ Below w.heap.size w w' := by
  obtain ⟨A, cap, rfl, _, _, hc⟩ := h1
  obtain ⟨A2, cap2, rfl, _, _, hc2⟩ := h2
  have HC := Lib.hid hc
  have HC2 := Lib.hid hc2
  clear hc hc2
  by_cases hl : a.length = b.length
  · have HL := Lib.hid hl
    have c0 : ((a.length : Int) == (b.length : Int)) = true := by simp; omega
    clear hl
    go_enter Tryz.func13, Tryz.ntmps13
    go_wp2_with fail
    (try rw [c0])
    clear c0
    go_loopw [5] (fun i wr => ∃ (k : Nat), k ≤ a.length ∧ i = .int .i64 k ∧ a.take k = b.take k ∧ Below w.heap.size w wr) (fun i _ => a.length - (intOf i).toNat)
    case atStart => exact ⟨0, Nat.zero_le _, rfl, rfl, Below.refl _ _⟩
    case round =>
      obtain ⟨k, hk, rfl, ht, hbw⟩ := hrel
      have HT := Lib.hid ht
      have HW := Lib.hid hbw
      have hl2 := HL.out
      clear ht hbw
      by_cases hlt : k < a.length
      · have d0 : (k : Int) < (a.length : Int) := by omega
        have d1 : (k : Int) < (b.length : Int) := by omega
        have HX := Lib.hid (take_eq_next HT.out hlt (by omega))
        have HY := Lib.hid (@ne_at _ _ a b k)
        obtain ⟨x, o, rfl, hcell, hcelb⟩ := HC.out k hlt
        obtain ⟨x2, o2, rfl, hcell2, hcelb2⟩ := HC2.out k (by omega)
        have g1 : wr.cell? ⟨x, o + k * 2, none⟩ = some (.string (a.getD k default).1) := by rw [HW.out.cell (World.block_lt_of_cell? _ _ hcell)]; exact hcell
        have g2 : wr.cell? ⟨x2, o2 + k * 2, none⟩ = some (.string (b.getD k default).1) := by rw [HW.out.cell (World.block_lt_of_cell? _ _ hcell2)]; exact hcell2
        have g3 : wr.cell? ⟨x, o + k * 2 + 1, none⟩ = some (.string (a.getD k default).2) := by rw [HW.out.cell (World.block_lt_of_cell? _ _ hcelb)]; exact hcelb
        have g4 : wr.cell? ⟨x2, o2 + k * 2 + 1, none⟩ = some (.string (b.getD k default).2) := by rw [HW.out.cell (World.block_lt_of_cell? _ _ hcelb2)]; exact hcelb2
        clear hcell hcell2 hcelb hcelb2
        clear hl2
        generalize a.getD k default = s at *
        generalize b.getD k default = t at *
        by_cases hst : s = t
        · obtain ⟨q1, q2⟩ := pr_beq s t hst
          obtain ⟨s, s'⟩ := s
          obtain ⟨t, t'⟩ := t
          simp only at q1 q2 g1 g2 g3 g4
          have HST := Lib.hid hst
          clear hst
          go_wp2_with fail
          go_region
          go_wp2_with fail
          go_roundw
          case rel => exact ⟨k + 1, by omega, by go_num, HX.out HST.out, HW.out.drew⟩
          case measure => simp [intOf]; omega
        · have e0 : decide (a = b) = false := decide_eq_false (HY.out hst)
          have E0 := Lib.hid e0
          have hq := pr_bne s t hst
          clear e0 hst HX HY
          obtain ⟨s, s'⟩ := s
          obtain ⟨t, t'⟩ := t
          simp only at hq g1 g2 g3 g4
          rcases hq with q1 | ⟨q1, q2⟩
          all_goals
            go_wp2_with fail
            go_region
            go_wp2
            rw [E0.out]
            go_ret
            exact ⟨rfl, HW.out.drew⟩
      · obtain rfl : k = a.length := by omega
        have e0 : decide (a = b) = true := by
          have := HT.out
          rw [List.take_length, hl2, List.take_length] at this
          exact decide_eq_true this
        have E0 := Lib.hid e0
        clear e0 hl2
        go_wp2
        rw [E0.out]
        go_ret
        exact ⟨rfl, HW.out⟩
  · have c0 : ¬ (a.length : Int) = (b.length : Int) := by omega
    have c1 : ((a.length : Int) == (b.length : Int)) = false := by simpa using c0
    have e0 : decide (a = b) = false := decide_eq_false (fun h => hl (by rw [h]))
    have E0 := Lib.hid e0
    clear e0
    go_enter Tryz.func13, Tryz.ntmps13
    go_wp2
    rw [E0.out]
    go_ret
    exact ⟨rfl, Below.refl _ _⟩

end Go.Proofs.YtnnmbpghkflepaaGreatDoor

namespace Go.Proofs
open Go.Shelf
def Tryz.lays156_ren : Go.Shelf.Ren := ⟨fun | 156 => 100 | 165 => 110 | 166 => 111 | 169 => 112 | 240 => 118 | 241 => 119 | 276 => 124 | 277 => 125 | n => n, fun | 31 => 31 | 9 => 9 | 3 => 3 | 4 => 4 | 0 => 0 | 20 => 20 | 72 => 148 | 76 => 152 | 70 => 146 | 37 => 61 | 75 => 151 | 127 => 161 | 164 => 166 | 5 => 5 | 80 => 154 | n => n, fun | n => n⟩
theorem Tryz.lays156 : Go.Proofs.Lays.n156 Tryz.prog Tryz.lays156_ren := {
  mixed := by kernel_rfl
  f156 := Tryz.func100.trans (congrArg some (by kernel_rfl))
  f165 := Tryz.func110.trans (congrArg some (by kernel_rfl))
  f166 := Tryz.func111.trans (congrArg some (by kernel_rfl))
  f169 := Tryz.func112.trans (congrArg some (by kernel_rfl))
  f240 := Tryz.func118.trans (congrArg some (by kernel_rfl))
  f241 := Tryz.func119.trans (congrArg some (by kernel_rfl))
  f276 := Tryz.func124.trans (congrArg some (by kernel_rfl))
  f277 := Tryz.func125.trans (congrArg some (by kernel_rfl))
  t0 := Tryz.underlying0
  a0 := Tryz.isAgg0
  z0 := Tryz.sizeOf0
  v0 := Tryz.zeroValue0
  t3 := Tryz.underlying3
  a3 := Tryz.isAgg3
  z3 := Tryz.sizeOf3
  v3 := Tryz.zeroValue3
  t4 := Tryz.underlying4
  a4 := Tryz.isAgg4
  z4 := Tryz.sizeOf4
  v4 := Tryz.zeroValue4
  t9 := Tryz.underlying9
  a9 := Tryz.isAgg9
  z9 := Tryz.sizeOf9
  v9 := Tryz.zeroValue9
  t20 := Tryz.underlying20
  a20 := Tryz.isAgg20
  z20 := Tryz.sizeOf20
  v20 := Tryz.zeroValue20
  t31 := Tryz.underlying31
  a31 := Tryz.isAgg31
  z31 := Tryz.sizeOf31
  v31 := Tryz.zeroValue31
  t37 := Tryz.underlying61
  a37 := Tryz.isAgg61
  z37 := Tryz.sizeOf61
  v37 := Tryz.zeroValue61
  t70 := Tryz.underlying146
  a70 := Tryz.isAgg146
  z70 := Tryz.sizeOf146
  v70 := Tryz.zeroValue146
  t72 := Tryz.underlying148
  a72 := Tryz.isAgg148
  z72 := Tryz.sizeOf148
  v72 := Tryz.zeroValue148
  t75 := Tryz.underlying151
  a75 := Tryz.isAgg151
  z75 := Tryz.sizeOf151
  v75 := Tryz.zeroValue151
  t76 := Tryz.underlying152
  a76 := Tryz.isAgg152
  z76 := Tryz.sizeOf152
  v76 := Tryz.zeroValue152
  t127 := Tryz.underlying161
  a127 := Tryz.isAgg161
  z127 := Tryz.sizeOf161
  v127 := Tryz.zeroValue161
  t164 := Tryz.underlying166
  a164 := Tryz.isAgg166
  z164 := Tryz.sizeOf166
  v164 := Tryz.zeroValue166 }
theorem Tryz.Builder_Extra_156 : Builder.Extra Tryz.prog Tryz.lays156_ren := {
  sizeBuilder := by kernel_rfl
  liesBuilder := by kernel_rfl
  t5 := Tryz.underlying5
  a5 := Tryz.isAgg5
  z5 := Tryz.sizeOf5
  v5 := Tryz.zeroValue5
  infoByte := by kernel_rfl
  cellsByte := by kernel_rfl
  sizeByte := by kernel_rfl
  neB5 := by decide }
open Go.RowKit in
theorem Tryz.strings_Join_none (a : Option Addr) (c : Nat) (sep : ByteArray) (w : World) :
    Calls Tryz.prog 100 #[.slice a 0 c, .string sep] w fun e w' => e = .returned (.string ⟨#[]⟩) ∧ w' = w := Any.strings_Join_none Tryz.lays156 Tryz.Builder_Extra_156 a c sep w
open Go.RowKit in
theorem Tryz.strings_Join (bk o c : Nat) (xs : List ByteArray) (sep : ByteArray) (w : World) (hcells : ∀ (j : Nat) x, xs[j]? = some x → w.cell? ⟨bk, o + j, none⟩ = some (.string x)) (hbk : bk < w.heap.size) (hN : xs.length ≤ 140737488355328) (hcap : xs.length ≤ c) (hlen : (Lib.join (xs.map (·.data.toList)) sep.data.toList).length ≤ 140737488355328) :
    Calls Tryz.prog 100 #[.slice (some ⟨bk, o, none⟩) xs.length c, .string sep] w fun e w' => e = .returned (.string ⟨(Lib.join (xs.map (·.data.toList)) sep.data.toList).toArray⟩) ∧ Below w.heap.size w w' := Any.strings_Join Tryz.lays156 Tryz.Builder_Extra_156 bk o c xs sep w hcells hbk hN hcap hlen
end Go.Proofs

namespace Go.Proofs.YtnnmbpghkflepaaGreatDoor
open Go.RowKit Go.PlainAid
set_option maxRecDepth 100000

def tkI (g : Sg) (left : List ByteArray) : Nat := (tkN g left).getD 0
def tkB (g : Sg) (left : List ByteArray) : Bool := (tkN g left).isSome
theorem tk_cases (g1 : Int) (g2 : ByteArray) (left : List ByteArray) :
    (g1 = 2 ∧ tkI (g1, g2) left = min left.length 1 ∧ tkB (g1, g2) left = true) ∨ (g1 = 3 ∧ tkI (g1, g2) left = left.length ∧ tkB (g1, g2) left = true) ∨
    (g1 ≠ 2 ∧ g1 ≠ 3 ∧ left = [] ∧ tkI (g1, g2) left = 0 ∧ tkB (g1, g2) left = false) ∨
    (g1 = 0 ∧ 0 < left.length ∧ left.getD 0 default ≠ g2 ∧ tkI (g1, g2) left = 0 ∧ tkB (g1, g2) left = false) ∨
    (g1 = 0 ∧ 0 < left.length ∧ left.getD 0 default = g2 ∧ tkI (g1, g2) left = 1 ∧ tkB (g1, g2) left = true) ∨
    (g1 ≠ 0 ∧ g1 ≠ 2 ∧ g1 ≠ 3 ∧ 0 < left.length ∧ tkI (g1, g2) left = 1 ∧ tkB (g1, g2) left = true) := by
  by_cases h2 : g1 = 2
  · subst h2; exact Or.inl ⟨rfl, rfl, rfl⟩
  by_cases h3 : g1 = 3
  · subst h3; exact Or.inr (Or.inl ⟨rfl, rfl, rfl⟩)
  by_cases hl : left = []
  · refine Or.inr (Or.inr (Or.inl ⟨h2, h3, hl, ?_, ?_⟩)) <;> simp [tkI, tkB, tkN, h2, h3, hl]
  have hp : 0 < left.length := List.length_pos_iff.2 hl
  by_cases h0 : g1 = 0
  · subst h0
    by_cases he : left.getD 0 default = g2
    · refine Or.inr (Or.inr (Or.inr (Or.inr (Or.inl ⟨rfl, hp, he, ?_, ?_⟩)))) <;> simp [tkI, tkB, tkN, hl, he, -List.getD_eq_getElem?_getD]
    · refine Or.inr (Or.inr (Or.inr (Or.inl ⟨rfl, hp, he, ?_, ?_⟩))) <;> simp [tkI, tkB, tkN, hl, he, -List.getD_eq_getElem?_getD]
  · refine Or.inr (Or.inr (Or.inr (Or.inr (Or.inr ⟨h0, h2, h3, hp, ?_, ?_⟩)))) <;> simp [tkI, tkB, tkN, h2, h3, hl, h0]

set_option maxHeartbeats 1600000 in
theorem take25 (g1 : Int) (g2 : ByteArray) (v : Value) (left : List ByteArray) (w : World) (h : Ss w v left) :
    Calls Tryz.prog 67 #[.agg #[.int .i64 g1, .string g2], v] w fun e w' => e = .returned (.tuple #[.int .i64 (tkI (g1, g2) left), .bool (tkB (g1, g2) left)]) ∧ Below w.heap.size w w' := by
  obtain ⟨A, cap, rfl, _, _, hc⟩ := h
  have HC := Lib.hid hc
  clear hc
  have HB := Lib.hid ((Below.refl w.heap.size w).alloc (Nat.le_refl _) (.cells #[.int .i64 g1, .string g2] 49 (0, 0)))
  rcases tk_cases g1 g2 left with ⟨rfl, e1, e2⟩ | ⟨rfl, e1, e2⟩ | ⟨c2, c3, rfl, e1, e2⟩ | ⟨rfl, hp, he, e1, e2⟩ | ⟨rfl, hp, he, e1, e2⟩ | ⟨c0, c2, c3, hp, e1, e2⟩
  · have hm : min (left.length : Int) 1 = ((min left.length 1 : Nat) : Int) := by omega
    rw [e1, e2]
    clear e1 e2
    go_enter Tryz.func67, Tryz.ntmps67
    go_wp2
    go_ret2
    exact ⟨by first | rfl | (rw [hm]), HB.out⟩
  · rw [e1, e2]
    clear e1 e2
    go_enter Tryz.func67, Tryz.ntmps67
    go_wp2
    go_ret2
    exact ⟨rfl, HB.out⟩
  · rw [e1, e2]
    clear e1 e2
    go_enter Tryz.func67, Tryz.ntmps67
    go_wp2_with fail
    go_region
    go_wp2
    go_ret2
    exact ⟨rfl, HB.out.drew⟩
  · rw [e1, e2]
    have q := str_bne _ _ he
    obtain ⟨b, o, rfl, hcell⟩ := HC.out 0 hp
    rw [Nat.add_zero] at hcell
    have g : ∀ ob, (w.alloc ob).cell? ⟨b, o, none⟩ = some (.string (left.getD 0 default)) := fun ob => by
      rw [World.cell?_of_block (w := w) (Below.heap_alloc _ _ _ (World.block_lt_of_cell? _ _ hcell))]; exact hcell
    clear e1 e2 he hcell
    have c0 : ¬ (left.length : Int) = 0 := by omega
    have c1 : ((left.length : Int) == 0) = false := by simpa using c0
    have c4 : (0 : Int) < (left.length : Int) := by omega
    generalize left.getD 0 default = x at *
    go_enter Tryz.func67, Tryz.ntmps67
    go_wp2_with fail
    go_region
    go_wp2
    go_ret2
    exact ⟨rfl, HB.out.drew⟩
  · rw [e1, e2]
    have q := str_beq _ _ he
    obtain ⟨b, o, rfl, hcell⟩ := HC.out 0 hp
    rw [Nat.add_zero] at hcell
    have g : ∀ ob, (w.alloc ob).cell? ⟨b, o, none⟩ = some (.string (left.getD 0 default)) := fun ob => by
      rw [World.cell?_of_block (w := w) (Below.heap_alloc _ _ _ (World.block_lt_of_cell? _ _ hcell))]; exact hcell
    clear e1 e2 he hcell
    have c0 : ¬ (left.length : Int) = 0 := by omega
    have c1 : ((left.length : Int) == 0) = false := by simpa using c0
    have c4 : (0 : Int) < (left.length : Int) := by omega
    generalize left.getD 0 default = x at *
    go_enter Tryz.func67, Tryz.ntmps67
    go_wp2_with fail
    go_region
    go_wp2
    go_ret2
    exact ⟨rfl, HB.out.drew⟩
  · rw [e1, e2]
    clear e1 e2
    have c5 : ¬ (left.length : Int) = 0 := by omega
    have c1 : ((left.length : Int) == 0) = false := by simpa using c5
    have c6 : (g1 == 0) = false := by simpa using c0
    go_enter Tryz.func67, Tryz.ntmps67
    go_wp2_with fail
    go_region
    go_wp2
    go_ret2
    exact ⟨rfl, HB.out.drew⟩

/-! join -/
theorem st_of' (l : List UInt8) : (⟨l.toArray⟩ : ByteArray) = st (l.map (fun b => (b.toNat : Int))) := by
  rw [st]
  congr 1
  simp [List.map_map, Function.comp_def]
theorem join_jn : ∀ xs : List (List UInt8), (Lib.join xs [47]).map (fun b => (b.toNat : Int)) = jnL (xs.map (List.map (fun b => (b.toNat : Int)))) := by
  intro xs
  induction xs with
  | nil => rfl
  | cons x r ih =>
    cases r with
    | nil => simp [Lib.join_one, jnL]
    | cons y r =>
      have e : Lib.join (x :: y :: r) [47] = x ++ 47 :: Lib.join (y :: r) [47] := by
        rw [Lib.join_cons, Lib.join_cons]
        simp [Lib.joinTail]
      rw [e, List.map_append, List.map_cons, ih]
      rfl
theorem jn_is (l : List ByteArray) : (⟨(Lib.join ((l.map encS).map (·.data.toList)) [47]).toArray⟩ : ByteArray) = jnT l := by
  rw [st_of', join_jn, jnT, List.map_map, List.map_map]
  congr 2
  apply List.map_congr_left
  intro s _
  exact bs_st (encL_inR (bs_inR s))
theorem jnL_len (B : Nat) : ∀ l : List (List Int), (∀ x ∈ l, x.length ≤ B) → (jnL l).length ≤ l.length * (B + 1) := by
  intro l
  induction l with
  | nil => intro _; simp [jnL]
  | cons x r ih =>
    intro h
    have hx := h x (by simp)
    cases r with
    | nil => simp [jnL]; omega
    | cons y r =>
      have := ih (fun z hz => h z (by simp at hz ⊢; exact Or.inr hz))
      rw [jnL, List.length_append, List.length_cons, List.length_cons, Nat.add_mul]
      omega
theorem join_len (l : List ByteArray) (h : ∀ s ∈ l, s.size ≤ 100000000) (hl : l.length ≤ 1000) : (Lib.join ((l.map encS).map (·.data.toList)) [47]).length ≤ 140737488355328 := by
  have e : (Lib.join ((l.map encS).map (·.data.toList)) [47]).length = (jnL (l.map (fun s => encL (bs s)))).length := by
    have := congrArg ByteArray.size (jn_is l)
    rw [jnT, st_size, Lib.size_eq] at this
    simpa using this
  rw [e]
  have := jnL_len 300000000 (l.map (fun s => encL (bs s))) (by
    intro x hx
    rw [List.mem_map] at hx
    obtain ⟨s, hs, rfl⟩ := hx
    have h1 := encL_len (bs s)
    have h2 := h s hs
    rw [bs_len] at h1
    omega)
  rw [List.length_map] at this
  omega

theorem join59 (b o c n : Nat) (l : List ByteArray) (w : World) (hn : n = l.length) (hcells : ∀ (j : Nat) x, (l.map encS)[j]? = some x → w.cell? ⟨b, o + j, none⟩ = some (.string x)) (hbk : b < w.heap.size) (hc : n ≤ c) (h1 : ∀ s ∈ l, s.size ≤ 100000000) (h2 : l.length ≤ 1000) :
    Calls Tryz.prog 100 #[.slice (some ⟨b, o, none⟩) n c, .string ⟨#[47]⟩] w fun e w' => e = .returned (.string (jnT l)) ∧ Below w.heap.size w w' := by
  have hl : (l.map encS).length = n := by simp [hn]
  have := Tryz.strings_Join b o c (l.map encS) ⟨#[47]⟩ w hcells hbk (by omega) (by omega) (join_len l h1 h2)
  rw [hl] at this
  refine this.mono ?_
  rintro e w' ⟨rfl, h⟩
  rw [← jn_is]
  exact ⟨rfl, h⟩

set_option maxHeartbeats 1600000 in
theorem join44 (v : Value) (l : List ByteArray) (w : World) (h : Ss w v l) (hs : ∀ s ∈ l, s.size ≤ 100000000) (hl : l.length ≤ 1000) :
    Calls Tryz.prog 83 #[v] w fun e w' => e = .returned (.string (jnT l)) ∧ Below w.heap.size w w' := by
  obtain ⟨A, cap, rfl, _, _, hc⟩ := h
  have HC := Lib.hid hc
  have HS := Lib.hid hs
  clear hc hs
  go_enter Tryz.func83, Tryz.ntmps83
  go_wp2_with (at_make; refine wpList_mkS _ rfl _ _ rfl w.heap.size w (Below.refl _ _) (Nat.le_refl _) _ l.length rfl rfl rfl (by omega) ?_)
  intro v2 w2 h2 _
  have H2 := Lib.hid h2
  clear h2
  go_wp2_with fail
  go_loopw [3, 11] (fun v i wr => ∃ (k : Nat), k ≤ l.length ∧ i = .int .i64 k ∧ OwnS w.heap.size w v ((l.take k).map encS) wr) (fun _ i _ => l.length - (intOf i).toNat)
  case atStart => exact ⟨0, Nat.zero_le _, rfl, H2.out⟩
  case round =>
    obtain ⟨k, hk, rfl, hown⟩ := hrel
    have HO := Lib.hid hown
    clear hown
    by_cases hlt : k < l.length
    · have d0 : (k : Int) < (l.length : Int) := by omega
      obtain ⟨x, o, rfl, hcell⟩ := HC.out k hlt
      have g1 : wr.cell? ⟨x, o + k, none⟩ = some (.string (l.getD k default)) := by rw [HO.out.2.1.cell (World.block_lt_of_cell? _ _ hcell)]; exact hcell
      have hsz : (l.getD k default).size ≤ 100000000 := HS.out _ (getD_mem l k hlt)
      have HN := Lib.hid (take_next encS l k hlt)
      have eb : Hid (((l.take k).map encS).length ≤ 1000000000) := by show _ ≤ _; rw [List.length_map, List.length_take]; omega
      clear hcell
      generalize l.getD k default = p at *
      go_wp2_with (first | (go_at_call 99; refine (encodeP _ _ hsz).mono ?_; rintro e w3 ⟨rfl, h3⟩; have HO3 := Lib.hid (HO.out.call h3); clear h3) | (at_builtin; refine wpList_appS _ rfl (.tmp 15) (.tmp 18) rfl w.heap.size w _ _ rfl (HO3.out.alloc _) ?b1 w3.heap.size 1 1 [encS p] rfl rfl (by omega) (heap_alloc_new _ _) ?_))
      case b1 => exact eb.out
      intro v4 w4 h4 _ _
      have H4 : Hid (OwnS w.heap.size w v4 ((l.take (k + 1)).map encS) w4) := by show OwnS _ _ _ _ _; rw [HN.out, List.map_take]; exact h4
      clear h4
      go_wp2_with fail
      go_roundw
      case rel => exact ⟨k + 1, by omega, by go_num, H4.out⟩
      case measure => simp [intOf]; omega
    · obtain rfl : k = l.length := by omega
      have hgs := HO.out.ss
      rw [List.take_length] at hgs
      have HB3 := Lib.hid HO.out.2.1
      obtain ⟨A5, c5, rfl, hcp, _, hcc⟩ := hgs
      have HCC := Lib.hid hcc
      clear hcc
      by_cases h0 : l.length = 0
      · obtain rfl : l = [] := List.eq_nil_of_length_eq_zero h0
        go_wp2_with (first | (go_at_call 100; refine (Tryz.strings_Join_none _ _ _ _).mono ?_; rintro e w6 ⟨rfl, rfl⟩))
        go_ret
        exact ⟨rfl, HB3.out⟩
      · obtain ⟨b, o, rfl, hz⟩ := HCC.out 0 (by rw [List.length_map]; omega)
        have hlt := World.block_lt_of_cell? _ _ hz
        clear hz
        have HJ : Hid (∀ (j : Nat) x, (l.map encS)[j]? = some x → wr.cell? ⟨b, o + j, none⟩ = some (.string x)) := by
          intro j x hx
          have hj : j < (l.map encS).length := (List.getElem?_eq_some_iff.1 hx).1
          obtain ⟨b', o', e, hz⟩ := HCC.out j hj
          cases e
          rw [hz]
          simp only [List.getD, hx, Option.getD_some]
        go_wp2_with (first | (go_at_call 100; refine (join59 b o c5 _ l _ rfl HJ.out hlt (by simpa using hcp) HS.out hl).mono ?_; rintro e w6 ⟨rfl, h6⟩; have H6 := Lib.hid h6; clear h6))
        go_ret
        exact ⟨rfl, HB3.out.trans (H6.out.mono HB3.out.size)⟩

/-! tell -/
def tlS (g : Sg) (t : List ByteArray) : ByteArray := (tlV g t).getD ⟨#[]⟩
def tlB (g : Sg) (t : List ByteArray) : Bool := (tlV g t).isSome
theorem tl_cases (g1 : Int) (g2 : ByteArray) (t : List ByteArray) :
    (g1 = 3 ∧ tlS (g1, g2) t = jnT t ∧ tlB (g1, g2) t = true) ∨ (g1 = 0 ∧ tlS (g1, g2) t = ⟨#[]⟩ ∧ tlB (g1, g2) t = false) ∨
    (g1 ≠ 3 ∧ g1 ≠ 0 ∧ t = [] ∧ tlS (g1, g2) t = ⟨#[]⟩ ∧ tlB (g1, g2) t = false) ∨ (g1 ≠ 3 ∧ g1 ≠ 0 ∧ 0 < t.length ∧ tlS (g1, g2) t = t.getD 0 default ∧ tlB (g1, g2) t = true) := by
  by_cases h3 : g1 = 3
  · subst h3; exact Or.inl ⟨rfl, rfl, rfl⟩
  by_cases h0 : g1 = 0
  · subst h0; exact Or.inr (Or.inl ⟨rfl, rfl, rfl⟩)
  by_cases ht : t = []
  · refine Or.inr (Or.inr (Or.inl ⟨h3, h0, ht, ?_, ?_⟩)) <;> simp [tlS, tlB, tlV, h3, h0, ht]
  · refine Or.inr (Or.inr (Or.inr ⟨h3, h0, List.length_pos_iff.2 ht, ?_, ?_⟩)) <;> simp [tlS, tlB, tlV, h3, h0, ht]

set_option maxHeartbeats 1600000 in
theorem tell26 (g1 : Int) (g2 : ByteArray) (v : Value) (t : List ByteArray) (w : World) (h : Ss w v t) (hs : ∀ s ∈ t, s.size ≤ 100000000) (hl : t.length ≤ 1000) :
    Calls Tryz.prog 68 #[.agg #[.int .i64 g1, .string g2], v] w fun e w' => e = .returned (.tuple #[.string (tlS (g1, g2) t), .bool (tlB (g1, g2) t)]) ∧ Below w.heap.size w w' := by
  have HB := Lib.hid ((Below.refl w.heap.size w).alloc (Nat.le_refl _) (.cells #[.int .i64 g1, .string g2] 49 (0, 0)))
  have HSs := Lib.hid (h.call HB.out)
  have HS := Lib.hid hs
  obtain ⟨A, cap, rfl, _, _, hc⟩ := h
  have HC := Lib.hid hc
  clear hc hs
  rcases tl_cases g1 g2 t with ⟨rfl, e1, e2⟩ | ⟨rfl, e1, e2⟩ | ⟨c3, c0, rfl, e1, e2⟩ | ⟨c3, c0, hp, e1, e2⟩
  · rw [e1, e2]
    clear e1 e2
    go_enter Tryz.func68, Tryz.ntmps68
    go_wp2_with (first | (go_at_call 83; refine (join44 _ _ _ HSs.out HS.out hl).mono ?_; rintro e w6 ⟨rfl, h6⟩; have H6 := Lib.hid h6; clear h6))
    go_ret2
    exact ⟨rfl, HB.out.trans (H6.out.mono HB.out.size)⟩
  · rw [e1, e2]
    clear e1 e2
    go_enter Tryz.func68, Tryz.ntmps68
    go_wp2
    go_ret2
    exact ⟨rfl, HB.out⟩
  · rw [e1, e2]
    clear e1 e2
    have q3 : (g1 == 3) = false := by simpa using c3
    have q0 : (g1 == 0) = false := by simpa using c0
    go_enter Tryz.func68, Tryz.ntmps68
    go_wp2
    go_ret2
    exact ⟨rfl, HB.out⟩
  · rw [e1, e2]
    obtain ⟨b, o, rfl, hcell⟩ := HC.out 0 hp
    rw [Nat.add_zero] at hcell
    have g : ∀ ob, (w.alloc ob).cell? ⟨b, o, none⟩ = some (.string (t.getD 0 default)) := fun ob => by
      rw [World.cell?_of_block (w := w) (Below.heap_alloc _ _ _ (World.block_lt_of_cell? _ _ hcell))]; exact hcell
    clear e1 e2 hcell
    have q3 : (g1 == 3) = false := by simpa using c3
    have q0 : (g1 == 0) = false := by simpa using c0
    have c5 : ¬ (t.length : Int) = 0 := by omega
    have c1 : ((t.length : Int) == 0) = false := by simpa using c5
    have c4 : (0 : Int) < (t.length : Int) := by omega
    generalize t.getD 0 default = x at *
    go_enter Tryz.func68, Tryz.ntmps68
    go_wp2
    go_ret2
    exact ⟨rfl, HB.out⟩
end Go.Proofs.YtnnmbpghkflepaaGreatDoor
