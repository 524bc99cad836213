/-
  Put together: Nam, ShelfS, Srt.
-/
import Derived.Test.YthigandmemifoaaGreatDoorP06
import Derived.Test.YthigandmemifoaaGreatDoorP07
import Derived.Shelf.SlSortCmp.Small
import Derived.Shelf.Small.Bits
import Derived.Test.YthigandmemifoaaGreatDoorProg
import Derived.Test.YthigandmemifoaaGreatDoorP04
import Derived.Shelf.SlSortCmp.Whole1
namespace Go.Proofs.YthigandmemifoaaGreatDoor
open Go.RowKit Go.PlainAid
set_option maxRecDepth 100000

set_option maxHeartbeats 1600000 in
theorem isName33 (s : ByteArray) (w : World) : Calls Tryz.prog 78 #[.string s] w fun e w' => e = .returned (.bool (txB s)) ∧ w' = w := by
  have gb := get_bt s
  by_cases h1 : 1 ≤ s.size
  · by_cases h2 : s.size ≤ 16
    · have c1 : ¬ (s.size : Int) < 1 := by omega
      have c2 : ¬ (16 : Int) < (s.size : Int) := by omega
      have E0 : Hid (txB s = (bs s).all lc) := by show _ = _; rw [txB, decide_eq_true ⟨h1, h2⟩, Bool.true_and]
      go_enter Tryz.func78, Tryz.ntmps78
      go_wp2_with fail
      go_loopw [15] (fun i wr => ∃ k : Nat, k ≤ s.size ∧ i = .int .i64 k ∧ ((bs s).take k).all lc = true ∧ wr = w) (fun i _ => s.size - (intOf i).toNat)
      case atStart => exact ⟨0, Nat.zero_le _, rfl, by simp, rfl⟩
      case round =>
        obtain ⟨k, hk, rfl, hall, rfl⟩ := hrel
        have HA := Lib.hid hall
        clear hall
        by_cases hlt : k < s.size
        · have c0 : (k : Int) < (s.size : Int) := by omega
          have HL := Lib.hid (lc_next s k hlt)
          have HN := Lib.hid (lc_not s k hlt)
          by_cases hp : lc (bt s k) = true
          · have HP := Lib.hid hp
            have hp : (97 ≤ bt s k ∧ bt s k ≤ 122) ∨ (48 ≤ bt s k ∧ bt s k ≤ 57) := of_decide_eq_true hp
            rcases hp with ⟨p1, p2⟩ | ⟨p1, p2⟩
            all_goals
              go_wp2_with fail
              all_goals
                go_roundw
                case rel => exact ⟨k + 1, by omega, by go_num, by rw [HL.out, HA.out, HP.out]; rfl, trivial⟩
                case measure => simp [intOf]; omega
          · have hp : lc (bt s k) = false := by simpa using hp
            have E1 := Lib.hid (E0.out.trans (HN.out hp))
            have hp : ¬ ((97 ≤ bt s k ∧ bt s k ≤ 122) ∨ (48 ≤ bt s k ∧ bt s k ≤ 57)) := of_decide_eq_false hp
            have : (bt s k < 48) ∨ (57 < bt s k ∧ bt s k < 97) ∨ (122 < bt s k) := by omega
            clear hp
            rcases this with p1 | ⟨p1, p2⟩ | p1
            all_goals
              go_wp2
              all_goals
                rw [E1.out]
                go_ret
                exact ⟨rfl, rfl⟩
        · obtain rfl : k = s.size := by omega
          have E1 : Hid (txB s = true) := by show _ = _; rw [E0.out, ← HA.out, List.take_of_length_le (by rw [bs_len]; omega)]
          go_wp2
          rw [E1.out]
          go_ret
          exact ⟨rfl, rfl⟩
    · have c1 : ¬ (s.size : Int) < 1 := by omega
      have c2 : (16 : Int) < (s.size : Int) := by omega
      have e : txB s = false := by rw [txB, decide_eq_false (fun h => h2 h.2)]; rfl
      rw [e]
      go_enter Tryz.func78, Tryz.ntmps78
      go_wp2
      go_ret
      exact ⟨rfl, rfl⟩
  · have c1 : (s.size : Int) < 1 := by omega
    have e : txB s = false := by rw [txB, decide_eq_false (fun h => h1 h.1)]; rfl
    rw [e]
    go_enter Tryz.func78, Tryz.ntmps78
    go_wp2
    go_ret
    exact ⟨rfl, rfl⟩


/-- the place of the first record of that name, -1 of none -/
def nmI (l : List Rc) (s : ByteArray) : Int := if l.findIdx (fun r => decide (r.n = s)) < l.length then (l.findIdx (fun r => decide (r.n = s)) : Int) else -1
theorem nm_at {l : List Rc} {s : ByteArray} {k : Nat} (hk : k < l.length) (h : ∀ j, j < k → (l.getD j default).n ≠ s) (he : (l.getD k default).n = s) : nmI l s = k := by
  have e : l.findIdx (fun r => decide (r.n = s)) = k := by
    rw [List.findIdx_eq hk]
    constructor
    · have : l.getD k default = l[k] := by simp [List.getD, hk]
      rw [← this]; exact decide_eq_true he
    · intro j hj
      have : l.getD j default = l[j]'(by omega) := by simp [List.getD, show j < l.length by omega]
      rw [← this]; exact decide_eq_false (h j hj)
  unfold nmI
  rw [e, if_pos hk]
theorem nm_none {l : List Rc} {s : ByteArray} (h : ∀ j, j < l.length → (l.getD j default).n ≠ s) : nmI l s = -1 := by
  have e : l.findIdx (fun r => decide (r.n = s)) = l.length := by
    rw [List.findIdx_eq_length]
    intro r hr
    obtain ⟨j, hj, rfl⟩ := List.getElem_of_mem hr
    have := h j hj
    have e : l.getD j default = l[j] := by simp [List.getD, hj]
    rw [e] at this
    simp [this]
  unfold nmI
  rw [e, if_neg (by omega)]

set_option maxHeartbeats 1600000 in
theorem look38 (r : Rc) (fb : Nat) (s : ByteArray) (w : World) (hf : w.heap[fb]? = some (.cells #[.string s] 9 (0, 0))) :
    Calls Tryz.prog 86 #[.agg #[.string r.n, .int .i64 r.p, r.u, .int .i64 r.c, .bool r.k, .int .i64 r.rk, .int .i64 r.rf, .string r.rt], .pointer (some ⟨fb, 0, none⟩)] w fun e w' => e = .returned (.bool (decide (r.n = s))) ∧ Below w.heap.size w w' := by
  have k1 : ∀ o, (w.alloc o).cell? ⟨fb, 0, none⟩ = some (.string s) := fun o => by rw [blk_cell (blk_alloc hf o)]; rfl
  clear hf
  rw [← bs_eq]
  go_enter Tryz.func86, Tryz.ntmps86
  go_wp2
  go_ret
  exact ⟨rfl, (Below.refl _ _).alloc (Nat.le_refl _) _⟩

set_option maxHeartbeats 3200000 in
theorem idx37 (v : Value) (l : List Rc) (s : ByteArray) (fb : Nat) (w : World) (h : Rs w v l) (hz : l.length ≤ 1000000000) (hf : w.heap[fb]? = some (.cells #[.string s] 9 (0, 0))) :
    Calls Tryz.prog 85 #[v, .func (.func 86) #[] #[.pointer (some ⟨fb, 0, none⟩)]] w fun e w' => e = .returned (.int .i64 (nmI l s)) ∧ Below w.heap.size w w' := by
  have HS := Lib.hid h
  obtain ⟨A, cap, rfl⟩ := h.len
  have HF := Lib.hid hf
  clear h hf
  go_enter Tryz.func85, Tryz.ntmps85
  go_wp2_with fail
  go_loopw [8] (fun i wr => ∃ (k : Nat), k ≤ l.length ∧ i = .int .i64 k ∧ (∀ j, j < k → (l.getD j default).n ≠ s) ∧ Below w.heap.size w wr) (fun i _ => l.length - (intOf i).toNat)
  case atStart => exact ⟨0, Nat.zero_le _, rfl, fun j hj => by omega, Below.refl _ _⟩
  case round =>
    obtain ⟨k, hk, rfl, ht, hbw⟩ := hrel
    have HT := Lib.hid ht
    have HW := Lib.hid hbw
    clear ht hbw
    by_cases hlt : k < l.length
    · have d0 : (k : Int) < (l.length : Int) := by omega
      obtain ⟨x, o, rfl, hat, -⟩ := (HS.out.call HW.out).at k hlt
      obtain ⟨g0, g1, g2, g3, g4, g5, g6, g7⟩ := hat
      have HF2 := Lib.hid ((HW.out.block fb (blk_lt HF.out)).trans HF.out)
      have HN := Lib.hid (nm_at (s := s) hlt HT.out)
      have HE : Hid ((l.getD k default).n ≠ s → ∀ j, j < k + 1 → (l.getD j default).n ≠ s) := fun hn j hj => by
        by_cases e : j = k
        · rw [e]; exact hn
        · exact HT.out j (by omega)
      generalize l.getD k default = r at *
      by_cases hp : r.n = s
      · have hd : decide (r.n = s) = true := decide_eq_true hp
        have HP := Lib.hid hp
        clear hp
        go_wp2_with (go_at_call 86; refine (look38 r _ s _ HF2.out).mono ?_; rintro e w' ⟨rfl, hb'⟩; rw [hd]; have HB' := Lib.hid hb'; clear hb')
        rw [HN.out HP.out]
        go_ret
        exact ⟨rfl, HW.out.trans (HB'.out.mono HW.out.size)⟩
      · have hd : decide (r.n = s) = false := decide_eq_false hp
        have HP : Hid (r.n ≠ s) := hp
        clear hp
        go_wp2_with (go_at_call 86; refine (look38 r _ s _ HF2.out).mono ?_; rintro e w' ⟨rfl, hb'⟩; rw [hd]; have HB' := Lib.hid hb'; clear hb')
        go_roundw
        case rel => exact ⟨k + 1, by omega, by go_num, HE.out HP.out, HW.out.trans (HB'.out.mono HW.out.size)⟩
        case measure => simp [intOf]; omega
    · obtain rfl : k = l.length := by omega
      have HN := Lib.hid (nm_none HT.out)
      go_wp2
      rw [HN.out]
      go_ret
      exact ⟨rfl, HW.out⟩
set_option maxHeartbeats 1600000 in
theorem named14 (v : Value) (l : List Rc) (s : ByteArray) (w : World) (h : Rs w v l) (hz : l.length ≤ 1000000000) :
    Calls Tryz.prog 66 #[v, .string s] w fun e w' => e = .returned (.int .i64 (nmI l s)) ∧ Below w.heap.size w w' := by
  have HB := Lib.hid ((Below.refl w.heap.size w).alloc (Nat.le_refl _) (.cells #[.string s] 9 (0, 0)))
  have HI := Lib.hid (idx37 v l s w.heap.size (w.alloc (.cells #[.string s] 9 (0, 0))) (h.call HB.out) hz (blk_new _ _))
  obtain ⟨A, n, c, rfl⟩ := h.shape
  clear h
  go_enter Tryz.func66, Tryz.ntmps66
  go_wp2_with (first | (go_at_call 85; refine HI.out.mono ?_; rintro e w' ⟨rfl, hb'⟩; have HB' := Lib.hid hb'; clear hb'))
  go_ret
  exact ⟨rfl, HB.out.trans (HB'.out.mono HB.out.size)⟩
end Go.Proofs.YthigandmemifoaaGreatDoor

namespace Go.Proofs
open Go.Shelf
def Tryz.sortL_ren : Go.Shelf.Ren := ⟨fun | 6 => 95 | 15 => 107 | 14 => 106 | 28 => 122 | 29 => 123 | 20 => 114 | 21 => 115 | 22 => 116 | 23 => 117 | 24 => 118 | 25 => 119 | 26 => 120 | 27 => 121 | 46 => 127 | 47 => 128 | 48 => 129 | 49 => 130 | 50 => 131 | 57 => 139 | n => n, fun | 22 => 34 | 24 => 3 | 25 => 145 | 3 => 3 | 39 => 97 | 0 => 0 | 53 => 167 | 55 => 169 | 4 => 4 | 46 => 161 | 45 => 160 | 50 => 147 | 5 => 5 | 9 => 9 | 66 => 173 | 70 => 177 | 76 => 189 | 77 => 190 | n => n, fun | n => n⟩
theorem Tryz.sortL : Go.Proofs.SlLaysF.n6 Tryz.prog Tryz.sortL_ren := {
  mixed := by kernel_rfl
  f6 := ⟨Tryz.f95.name, by decide, Tryz.func95.trans (congrArg some (by kernel_rfl))⟩
  f14 := ⟨Tryz.f106.name, by decide, Tryz.func106.trans (congrArg some (by kernel_rfl))⟩
  f15 := Tryz.func107.trans (congrArg some (by kernel_rfl))
  f20 := ⟨Tryz.f114.name, by decide, Tryz.func114.trans (congrArg some (by kernel_rfl))⟩
  f21 := ⟨Tryz.f115.name, by decide, Tryz.func115.trans (congrArg some (by kernel_rfl))⟩
  f22 := ⟨Tryz.f116.name, by decide, Tryz.func116.trans (congrArg some (by kernel_rfl))⟩
  f23 := ⟨Tryz.f117.name, by decide, Tryz.func117.trans (congrArg some (by kernel_rfl))⟩
  f24 := ⟨Tryz.f118.name, by decide, Tryz.func118.trans (congrArg some (by kernel_rfl))⟩
  f25 := ⟨Tryz.f119.name, by decide, Tryz.func119.trans (congrArg some (by kernel_rfl))⟩
  f26 := ⟨Tryz.f120.name, by decide, Tryz.func120.trans (congrArg some (by kernel_rfl))⟩
  f27 := ⟨Tryz.f121.name, by decide, Tryz.func121.trans (congrArg some (by kernel_rfl))⟩
  f28 := Tryz.func122.trans (congrArg some (by kernel_rfl))
  f29 := Tryz.func123.trans (congrArg some (by kernel_rfl))
  f46 := ⟨Tryz.f127.name, by decide, Tryz.func127.trans (congrArg some (by kernel_rfl))⟩
  f47 := Tryz.func128.trans (congrArg some (by kernel_rfl))
  f48 := Tryz.func129.trans (congrArg some (by kernel_rfl))
  f49 := ⟨Tryz.f130.name, by decide, Tryz.func130.trans (congrArg some (by kernel_rfl))⟩
  f50 := ⟨Tryz.f131.name, by decide, Tryz.func131.trans (congrArg some (by kernel_rfl))⟩
  f57 := ⟨Tryz.f139.name, by decide, Tryz.func139.trans (congrArg some (by kernel_rfl))⟩
  t0 := Tryz.underlying0
  a0 := Tryz.isAgg0
  z0 := Tryz.sizeOf0
  v0 := Tryz.zeroValue0
  t3 := Tryz.underlying3
  a3 := Tryz.isAgg3
  z3 := Tryz.sizeOf3
  v3 := Tryz.zeroValue3
  t4 := Tryz.underlying4
  a4 := Tryz.isAgg4
  z4 := Tryz.sizeOf4
  v4 := Tryz.zeroValue4
  t5 := Tryz.underlying5
  a5 := Tryz.isAgg5
  z5 := Tryz.sizeOf5
  v5 := Tryz.zeroValue5
  t9 := Tryz.underlying9
  a9 := Tryz.isAgg9
  z9 := Tryz.sizeOf9
  v9 := Tryz.zeroValue9
  t22 := Tryz.underlying34
  a22 := Tryz.isAgg34
  z22 := Tryz.sizeOf34
  v22 := Tryz.zeroValue34
  a24 := Tryz.isAgg3
  z24 := Tryz.sizeOf3
  t25 := Tryz.underlying145
  a25 := Tryz.isAgg145
  z25 := Tryz.sizeOf145
  v25 := Tryz.zeroValue145
  t39 := Tryz.underlying97
  a39 := Tryz.isAgg97
  z39 := Tryz.sizeOf97
  v39 := Tryz.zeroValue97
  t45 := Tryz.underlying160
  a45 := Tryz.isAgg160
  z45 := Tryz.sizeOf160
  v45 := Tryz.zeroValue160
  t46 := Tryz.underlying161
  a46 := Tryz.isAgg161
  z46 := Tryz.sizeOf161
  v46 := Tryz.zeroValue161
  t50 := Tryz.underlying147
  a50 := Tryz.isAgg147
  z50 := Tryz.sizeOf147
  v50 := Tryz.zeroValue147
  t53 := Tryz.underlying167
  a53 := Tryz.isAgg167
  z53 := Tryz.sizeOf167
  v53 := Tryz.zeroValue167
  t55 := Tryz.underlying169
  a55 := Tryz.isAgg169
  z55 := Tryz.sizeOf169
  v55 := Tryz.zeroValue169
  t66 := Tryz.underlying173
  a66 := Tryz.isAgg173
  z66 := Tryz.sizeOf173
  v66 := Tryz.zeroValue173
  t70 := Tryz.underlying177
  a70 := Tryz.isAgg177
  z70 := Tryz.sizeOf177
  v70 := Tryz.zeroValue177
  t76 := Tryz.underlying189
  a76 := Tryz.isAgg189
  z76 := Tryz.sizeOf189
  v76 := Tryz.zeroValue189
  t77 := Tryz.underlying190
  a77 := Tryz.isAgg190
  z77 := Tryz.sizeOf190
  v77 := Tryz.zeroValue190 }
def Tryz.bitsLen_ren : Go.Shelf.Ren := ⟨fun | 125 => 107 | 128 => 122 | 129 => 123 | n => n, fun | 46 => 97 | 3 => 3 | 51 => 167 | 53 => 169 | 4 => 4 | 5 => 5 | 9 => 9 | n => n, fun | n => n⟩
theorem Tryz.bitsLen : Go.Proofs.Lays.n125 Tryz.prog Tryz.bitsLen_ren := {
  mixed := by kernel_rfl
  f125 := Tryz.func107.trans (congrArg some (by kernel_rfl))
  f128 := Tryz.func122.trans (congrArg some (by kernel_rfl))
  f129 := Tryz.func123.trans (congrArg some (by kernel_rfl))
  t3 := Tryz.underlying3
  a3 := Tryz.isAgg3
  z3 := Tryz.sizeOf3
  v3 := Tryz.zeroValue3
  t4 := Tryz.underlying4
  a4 := Tryz.isAgg4
  z4 := Tryz.sizeOf4
  v4 := Tryz.zeroValue4
  t5 := Tryz.underlying5
  a5 := Tryz.isAgg5
  z5 := Tryz.sizeOf5
  v5 := Tryz.zeroValue5
  t9 := Tryz.underlying9
  a9 := Tryz.isAgg9
  z9 := Tryz.sizeOf9
  v9 := Tryz.zeroValue9
  t46 := Tryz.underlying97
  a46 := Tryz.isAgg97
  z46 := Tryz.sizeOf97
  v46 := Tryz.zeroValue97
  t51 := Tryz.underlying167
  a51 := Tryz.isAgg167
  z51 := Tryz.sizeOf167
  v51 := Tryz.zeroValue167
  t53 := Tryz.underlying169
  a53 := Tryz.isAgg169
  z53 := Tryz.sizeOf169
  v53 := Tryz.zeroValue169 }
end Go.Proofs

namespace Go.Proofs.YthigandmemifoaaGreatDoor
open Go.RowKit Go.PlainAid
set_option maxRecDepth 100000

/-- by the order of the patterns, then by the places -/
def cW (ls : List (List Sg)) (i k : Nat) : Int := if cP (ls.getD i default) (ls.getD k default) ≠ 0 then cP (ls.getD i default) (ls.getD k default) else cI i k
theorem tcW (ls : List (List Sg)) : TC (cW ls) where
  one x y := by
    have := tcP.one (ls.getD x default) (ls.getD y default)
    have := tcI.one (x : Int) (y : Int)
    unfold cW
    split <;> omega
  anti x y := by
    have := tcP.anti (ls.getD x default) (ls.getD y default)
    have := tcI.anti (x : Int) (y : Int)
    unfold cW
    split <;> split <;> omega
  zero x y := by
    have h1 := tcP.zero (ls.getD x default) (ls.getD y default)
    have h2 := tcI.zero (x : Int) (y : Int)
    unfold cW
    split
    · rename_i hn
      constructor
      · intro e; exact absurd e hn
      · intro e; exact absurd (h1.2 (by rw [e])) hn
    · rw [h2]; omega
  le x y z h1 h2 := by
    unfold cW at *
    have hI := tcI.le (x : Int) (y : Int) (z : Int)
    by_cases e1 : cP (ls.getD x default) (ls.getD y default) = 0
    · rw [if_neg (by simpa using e1)] at h1
      rw [(tcP.zero _ _).1 e1]
      by_cases e2 : cP (ls.getD y default) (ls.getD z default) = 0
      · rw [if_neg (by simpa using e2)] at h2 ⊢
        exact hI h1 h2
      · rw [if_pos e2] at h2 ⊢
        exact h2
    · rw [if_pos e1] at h1
      by_cases e2 : cP (ls.getD y default) (ls.getD z default) = 0
      · rw [← (tcP.zero _ _).1 e2, if_pos e1]
        exact h1
      · rw [if_pos e2] at h2
        have o1 := tcP.one (ls.getD x default) (ls.getD y default)
        have := tcP.lt_of_lt_le (x := ls.getD x default) (y := ls.getD y default) (z := ls.getD z default) (by omega) h2
        rw [if_pos (by omega)]
        omega

set_option maxHeartbeats 1600000 in
theorem less21 (ls : List (List Sg)) (i k Bs : Nat) (v : Value) (w : World) (hi : i < ls.length) (hk : k < ls.length) (hbox : w.cell? ⟨Bs, 0, none⟩ = some v) (hg : Gss w v ls) (hf : Few ls) :
    Calls Tryz.prog 96 #[.int .i64 i, .int .i64 k, .pointer (some ⟨Bs, 0, none⟩)] w fun e w' => e = .returned (.int .i64 (cW ls i k)) ∧ ∃ q, w' = w.drewN q := by
  obtain ⟨A, cap, rfl, _, _, hc⟩ := hg
  obtain ⟨x, o, u, rfl, g1, hu⟩ := hc i hi
  obtain ⟨x', o', u', hA, g2, hu'⟩ := hc k hk
  cases hA
  have d0 : (i : Int) < (ls.length : Int) := by omega
  have d1 : (k : Int) < (ls.length : Int) := by omega
  have hcp := fun W hW => compare8 u u' _ _ W (hu.drN hW) (hu'.drN hW) (hf.at i) (hf.at k)
  have HCP := Lib.hid hcp
  obtain ⟨A1, n1, c1, rfl⟩ := hu.shape
  obtain ⟨A2, n2, c2, rfl⟩ := hu'.shape
  have HW : Hid (cW ls i k = if cP (ls.getD i default) (ls.getD k default) ≠ 0 then cP (ls.getD i default) (ls.getD k default) else cI i k) := rfl
  generalize cW ls i k = V at *
  have hci := cmpI18 (i : Int) (k : Int)
  generalize cI (i : Int) (k : Int) = z at *
  generalize cP (ls.getD i default) (ls.getD k default) = r at *
  clear hc hcp hu hu' hi hk
  by_cases hr : r = 0
  · have q0 : (r == 0) = true := by simp [hr]
    have HN : Hid (V = z) := by have := HW.out; simp [hr] at this; exact this
    clear hr HW
    go_enter Tryz.func96, Tryz.ntmps96
    go_wp2_with fail
    go_quiet (first | (go_at_call 97; exact Calls.quiet_of (HCP.out _ ⟨_, rfl⟩)))
    go_wp2_with (first | (go_at_call 98; refine (hci _).mono ?_; rintro e w2 ⟨rfl, hw2⟩; subst hw2))
    rw [HN.out]
    go_ret
    exact ⟨rfl, _, rfl⟩
  · have q0 : (r == 0) = false := by simp [hr]
    have HN : Hid (V = r) := by have := HW.out; simp [hr] at this; exact this
    clear hr HW
    go_enter Tryz.func96, Tryz.ntmps96
    go_wp2_with fail
    go_quiet (first | (go_at_call 97; exact Calls.quiet_of (HCP.out _ ⟨_, rfl⟩)))
    go_wp2
    rw [HN.out]
    go_ret
    exact ⟨rfl, _, rfl⟩

/-- the row of a sort, and new blocks: all below stays -/
theorem below_sortW {α : Type} [Inhabited α] (enc : α → Value) {w0 w : World} (hb : Below w0.heap.size w0 w) (blk off m : Nat) (d : Array α) (os : Array Obj) (hB : w0.heap.size ≤ blk) : Below w0.heap.size w0 (sortWorld enc w blk off m d os) := by
  refine ⟨hb.os, hb.tape, hb.output, ?_, fun k hk => ?_⟩
  · have := hb.size
    simp only [sortWorld, Sort.size_grow, Sort.size_putRow]
    show _ ≤ w.heap.size + _
    omega
  · have hsz := hb.size
    rw [sortWorld, Sort.heap_grow_old _ _ (by rw [Sort.size_putRow]; show k < w.heap.size; omega)]
    rw [← hb.block k hk]
    simp only [Sort.putRow, Sort.mapBlock]
    rw [Array.getElem?_modify, if_neg (by omega)]
    rfl

def encF {n : Nat} (i : Fin n) : Value := .int .i64 (i.val : Int)
def rowF (n : Nat) : Array (Fin n) := Array.ofFn id

theorem swoF (ls : List (List Sg)) (n : Nat) : Sort.SWO (ltOf (α := Fin n) fun i k => cW ls i.val k.val) where
  irrefl x := by
    have := (tcW ls).refl x.val
    simp [ltOf, this]
  trans x y z h1 h2 := by
    simp only [ltOf, decide_eq_true_eq] at *
    exact (tcW ls).lt_of_lt_le h1 (by omega)
  ntrans x y z h1 h2 := by
    simp only [ltOf, decide_eq_false_iff_not] at *
    have a1 := (tcW ls).anti x.val y.val
    have a2 := (tcW ls).anti y.val z.val
    have a3 := (tcW ls).anti x.val z.val
    have := (tcW ls).le z.val y.val x.val (by omega) (by omega)
    omega

/-- what a sorted row of places is -/
def Places (ls : List (List Sg)) (ps : List Nat) : Prop := ps.Perm (List.range ls.length) ∧ ps.Pairwise (fun i k => cW ls i k < 0)

theorem places_of (ls : List (List Sg)) (n : Nat) (hn : ls.length = n) [Inhabited (Fin n)] (d : Array (Fin n)) (hp : Sort.PermIn 0 (rowF n).size (rowF n) d) (hs : Sort.SortedIn (ltOf (α := Fin n) fun i k => cW ls i.val k.val) 0 (rowF n).size d) :
    Places ls (d.toList.map Fin.val) := by
  have hz : (rowF n).size = n := by simp [rowF]
  obtain ⟨h1, _, h3⟩ := hp
  rw [hz] at hs h3 h1
  have e1 : (d.extract 0 n) = d := by
    have : d.extract 0 d.size = d := Array.extract_size
    rwa [h1] at this
  have e2 : ((rowF n).extract 0 n) = rowF n := by
    have : (rowF n).extract 0 (rowF n).size = rowF n := Array.extract_size
    rwa [hz] at this
  rw [e1, e2] at h3
  have hperm : (d.toList.map Fin.val).Perm (List.range n) := by
    have := h3.map Fin.val
    have e : (rowF n).toList.map Fin.val = List.range n := by
      apply List.ext_getElem
      · simp [rowF]
      · intro i h1 h2
        simp [rowF]
    rw [e] at this
    exact this
  refine ⟨by rw [hn]; exact hperm, ?_⟩
  have hnd : (d.toList.map Fin.val).Nodup := hperm.nodup_iff.2 List.nodup_range
  rw [List.pairwise_iff_getElem]
  intro i j hi hj hij
  simp only [List.length_map, Array.length_toList] at hi hj
  simp only [List.getElem_map, Array.getElem_toList]
  have hl := hs i j (by omega) hij (by omega)
  simp only [ltOf, decide_eq_false_iff_not] at hl
  rw [getElem!_pos d i hi, getElem!_pos d j hj] at hl
  have a1 := (tcW ls).anti (d[i]).val (d[j]).val
  have hne : cW ls (d[i]).val (d[j]).val ≠ 0 := by
    intro e
    have := ((tcW ls).zero _ _).1 e
    have h5 := (List.pairwise_iff_getElem.1 hnd) i j (by simpa using hi) (by simpa using hj) hij
    simp only [List.getElem_map, Array.getElem_toList] at h5
    exact h5 this
  omega

theorem len27 (n : Nat) (W : World) (h : n ≤ 12) : Calls Tryz.prog (Tryz.sortL_ren.f 15) #[.int .u64 n] W fun e w' => (∃ l : Int, e = .returned (.int .i64 l)) ∧ w' = W :=
  (Any.bits_Len Tryz.bitsLen n W (by omega) (by omega)).mono fun _ _ ⟨he, hw⟩ => ⟨⟨_, he⟩, hw⟩

/-- the sort of the places, some -/
theorem sort20 (ls : List (List Sg)) (n blk cap Bs : Nat) (v : Value) (w0 w : World) (hn0 : 0 < n) (hn : ls.length = n) (h12 : n ≤ 1000) (hbox : w0.cell? ⟨Bs, 0, none⟩ = some v) (hg : Gss w0 v ls) (hf : Few ls)
    (hb : Below w0.heap.size w0 w) (hB : w0.heap.size ≤ blk) (hH : ∀ j, j < n → w.cell? ⟨blk, j, none⟩ = some (.int .i64 j) ∧ w.frozen? ⟨blk, j, none⟩ = false) :
    Calls Tryz.prog 95 #[.slice (some ⟨blk, 0, none⟩) n cap, .func (.func 96) #[] #[.pointer (some ⟨Bs, 0, none⟩)]] w fun e w' =>
      e = .returned (.tuple #[]) ∧ ∃ ps, Places ls ps ∧ (∀ j, j < n → w'.cell? ⟨blk, j, none⟩ = some (.int .i64 (ps.getD j 0 : Nat))) ∧ Below w0.heap.size w0 w' := by
  haveI : Inhabited (Fin n) := ⟨⟨0, hn0⟩⟩
  have hz : (rowF n).size = n := by simp [rowF]
  have hrow : Sort.Holds (encF (n := n)) w blk 0 (rowF n) := by
    intro j hj
    rw [hz] at hj
    rw [Nat.zero_add]
    refine ⟨?_, (hH j hj).2⟩
    rw [(hH j hj).1, getElem!_pos (rowF n) j (by omega)]
    simp [rowF, encF]
  have hcmp : CmpReads Tryz.prog 96 #[.pointer (some ⟨Bs, 0, none⟩)] (encF (n := n)) (fun i k => cW ls i.val k.val) blk 0 (rowF n).size w := by
    intro m os dk hdk x y
    have hbw := below_sortW (encF (n := n)) hb blk 0 m dk os hB
    have hbx := World.block_lt_of_cell? _ _ hbox
    exact less21 ls x.val y.val Bs v _ (by rw [hn]; exact x.isLt) (by rw [hn]; exact y.isLt) (by rw [hbw.cell hbx]; exact hbox) (hg.call hbw) hf
  have eg : ∀ args w, (callFunc 96 args).run Tryz.prog w = .ok (.enter 96 args) w := enters_of Tryz.func96 (by kernel_rfl) rfl
  have hblk : blk < w.heap.size := World.block_lt_of_cell? _ _ (hH 0 hn0).1
  have h := Any.slices_SortFunc Tryz.sortL (encF (n := n)) (fun _ => rfl) (fun i k => cW ls i.val k.val) (swoF ls n) 96 #[.pointer (some ⟨Bs, 0, none⟩)] blk 0 cap (rowF n) w eg hcmp.lays hrow hblk (by omega)
  rw [hz] at h
  refine h.mono ?_
  rintro e w' ⟨he, d, m, os, hp, hs, hw⟩
  have hps := places_of ls n hn d (by rw [hz]; exact hp) (by rw [hz]; exact hs)
  have hds : d.size = n := by have := hp.1; omega
  refine ⟨he, d.toList.map Fin.val, hps, fun j hj => ?_, ?_⟩
  · subst hw
    have := (holds_sortWorld (encF (n := n)) w blk 0 m (rowF n) d os hblk hrow (by omega) j (by omega)).1
    rw [Nat.zero_add] at this
    rw [this, getElem!_pos d j (by omega)]
    simp [encF, List.getD, show j < d.size by omega]
  · subst hw
    exact below_sortW (encF (n := n)) hb blk 0 m d os hB

/-! the sort of none -/
set_option maxHeartbeats 2000000 in
theorem ins29_none (p : Option Addr) (cap : Nat) (fv : Value) (w : World) : Calls Tryz.prog 114 #[.slice p 0 cap, .int .i64 0, .int .i64 0, fv] w fun e w' => e = .returned (.tuple #[]) ∧ w' = w := by
  go_enter Tryz.func114, Tryz.ntmps114
  go_wp2
  refine wp_loop_rounds 1 ?_
  rw [rounds_succ]
  go_wp2
  go_end0
  exact ⟨rfl, rfl⟩
set_option maxHeartbeats 2000000 in
theorem pdq26_none (p : Option Addr) (cap : Nat) (lim : Int) (fv : Value) (w : World) : Calls Tryz.prog 106 #[.slice p 0 cap, .int .i64 0, .int .i64 0, .int .i64 lim, fv] w fun e w' => e = .returned (.tuple #[]) ∧ w' = w := by
  go_enter Tryz.func106, Tryz.ntmps106
  go_wp2
  refine wp_loop_rounds 1 ?_
  rw [rounds_succ]
  go_wp2_with (first | (go_at_call 114; refine (ins29_none _ _ _ _).mono ?_; rintro e w' ⟨rfl, rfl⟩))
  (try simp only [Exit.inBlock, Exit.then]); refine bodyPost_ret (results_none rfl _ _ _) rfl ?_
  exact ⟨rfl, rfl⟩
set_option maxHeartbeats 2000000 in
theorem sort20_none (p : Option Addr) (cap : Nat) (fv : Value) (w : World) : Calls Tryz.prog 95 #[.slice p 0 cap, fv] w fun e w' => e = .returned (.tuple #[]) ∧ w' = w := by
  have hl : ∀ W, Calls Tryz.prog 107 #[.int .u64 0] W fun e w' => (∃ l : Int, e = .returned (.int .i64 l)) ∧ w' = W := fun W => len27 0 W (by omega)
  go_enter Tryz.func95, Tryz.ntmps95
  go_wp2_with (first | (go_at_call 107; refine (hl _).mono ?_; rintro e w' ⟨⟨l, rfl⟩, rfl⟩) | (go_at_call 106; refine (pdq26_none _ _ _ _ _).mono ?_; rintro e w' ⟨rfl, rfl⟩))
  go_end0
  exact ⟨rfl, rfl⟩
end Go.Proofs.YthigandmemifoaaGreatDoor
