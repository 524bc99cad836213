/-
  Put together: BldZ.
-/
import Derived.Shelf.Strings.Search1
import Derived.Test.YthigandmemifoaaGreatDoorProg
import Derived.Test.YthigandmemifoaaGreatDoorP07
import Derived.Deep.OwnRows
import Derived.Test.YthigandmemifoaaGreatDoorP12
import Derived.Test.YthigandmemifoaaGreatDoorP05
import Derived.Test.YthigandmemifoaaGreatDoorP04
import Derived.Laws.AppendOwnNone
import Derived.Test.YthigandmemifoaaGreatDoorP13
namespace Go.Proofs
open Go.Shelf
def Tryz.lays217_ren : Go.Shelf.Ren := ⟨fun | 217 => 149 | 266 => 153 | n => n, fun | 9 => 9 | 5 => 5 | 3 => 3 | n => n, fun | n => n⟩
theorem Tryz.lays217 : Go.Proofs.Lays.n217 Tryz.prog Tryz.lays217_ren := {
  mixed := by kernel_rfl
  f217 := Tryz.func149.trans (congrArg some (by kernel_rfl))
  f266 := Tryz.func153.trans (congrArg some (by kernel_rfl))
  t3 := Tryz.underlying3
  a3 := Tryz.isAgg3
  z3 := Tryz.sizeOf3
  v3 := Tryz.zeroValue3
  t5 := Tryz.underlying5
  a5 := Tryz.isAgg5
  z5 := Tryz.sizeOf5
  v5 := Tryz.zeroValue5
  t9 := Tryz.underlying9
  a9 := Tryz.isAgg9
  z9 := Tryz.sizeOf9
  v9 := Tryz.zeroValue9 }
open Go.RowKit Go.Lib in
theorem Tryz.stringslite_IndexByte (s : ByteArray) (c : Int) (w : World) :
    Calls Tryz.prog 149 #[.string s, .int .u8 c] w fun e w' => e = .returned (.int .i64 (Lib.indexByte s.data.toList c.toNat.toUInt8)) ∧ w' = w := Any.stringslite_IndexByte Tryz.lays217 s c w
end Go.Proofs

namespace Go.Proofs.YthigandmemifoaaGreatDoor
open Go.RowKit Go.PlainAid
set_option maxRecDepth 100000
set_option maxRecDepth 100000

/-- where the first mark stands -/
def ix (s : ByteArray) : Int := Lib.indexByte s.data.toList 47

theorem ix_one : ix ⟨#[47]⟩ = 0 := by decide
theorem u8_47 (b : UInt8) : b = 47 ↔ ((b.toNat : Int) = 47) := by
  constructor
  · rintro rfl; rfl
  · intro h
    apply UInt8.toNat_inj.1
    have : (47 : UInt8).toNat = 47 := rfl
    omega
theorem ix_cases (s : ByteArray) : (ix s = -1 ∧ ∀ x ∈ bs s, x ≠ 47) ∨ ∃ j : Nat, ix s = (j : Int) ∧ j < s.size ∧ bs s = (bs s).take j ++ 47 :: (bs s).drop (j + 1) ∧ ∀ x ∈ (bs s).take j, x ≠ 47 := by
  have hge := Lib.indexByte_ge s.data.toList 47
  by_cases h : ix s = -1
  · refine Or.inl ⟨h, fun x hx => ?_⟩
    simp only [bs, List.mem_map] at hx
    obtain ⟨b, hb, rfl⟩ := hx
    obtain ⟨k, hk⟩ := List.getElem?_of_mem hb
    intro e
    rw [(u8_47 b).2 e] at hk
    exact Lib.indexByte_none h k hk
  · obtain ⟨j, hj⟩ := Int.eq_ofNat_of_zero_le (a := ix s) (by unfold ix at *; omega)
    obtain ⟨h1, h2⟩ := Lib.indexByte_some (o := j) hj
    have hlt : j < s.data.toList.length := (List.getElem?_eq_some_iff.1 h1).1
    have hsz : j < s.size := by rw [Lib.size_eq]; exact hlt
    refine Or.inr ⟨j, hj, hsz, ?_, ?_⟩
    · have hl : j < (bs s).length := by rw [bs_len]; exact hsz
      conv => lhs; rw [← List.take_append_drop j (bs s)]
      rw [List.drop_eq_getElem_cons hl]
      congr 2
      simp only [bs, List.getElem_map]
      have := (List.getElem?_eq_some_iff.1 h1).2
      rw [this]; rfl
    · intro x hx
      rw [List.mem_take_iff_getElem] at hx
      obtain ⟨i, hi, rfl⟩ := hx
      have hi2 : i < s.data.toList.length := by simp [bs] at hi; simp; omega
      intro e
      simp only [bs, List.getElem_map] at e
      have := (u8_47 _).2 e
      exact h2 i (by omega) (by rw [List.getElem?_eq_getElem hi2, this])

theorem ix47 (s : ByteArray) : Lib.indexByte s.data.toList 47 = ix s := rfl

set_option maxHeartbeats 800000 in
set_option maxRecDepth 100000 in
theorem index66 (s : ByteArray) (w : World) :
    Calls Tryz.prog 145 #[.string s, .string ⟨#[47]⟩] w fun e w' => e = .returned (.int .i64 (ix s)) ∧ w' = w := by
  by_cases hs : s = ⟨#[47]⟩
  · subst hs
    rw [ix_one]
    go_enter Tryz.func145, Tryz.ntmps145
    go_wp2
    go_ret
    exact ⟨rfl, rfl⟩
  · have q : (([47] : List UInt8) == s.toList) = false := by
      have := bs_eq ⟨#[47]⟩ s
      rw [decide_eq_false (fun h => hs h.symm), Lib.toList_data] at this
      exact this
    go_enter Tryz.func145, Tryz.ntmps145
    go_wp2_with (go_at_call 149; refine (Tryz.stringslite_IndexByte _ _ _).mono ?_; rintro e w' ⟨rfl, rfl⟩)
    go_ret
    exact ⟨rfl, rfl⟩
set_option maxHeartbeats 800000 in
theorem index56 (s : ByteArray) (w : World) :
    Calls Tryz.prog 138 #[.string s, .string ⟨#[47]⟩] w fun e w' => e = .returned (.int .i64 (ix s)) ∧ w' = w := by
  go_enter Tryz.func138, Tryz.ntmps138
  go_wp2_with (go_at_call 145; refine (index66 _ _).mono ?_; rintro e w' ⟨rfl, rfl⟩)
  go_ret
  exact ⟨rfl, rfl⟩

/-- the block of pieces: the first i of them are P -/
def Pcs (w : World) (b N : Nat) (P : List ByteArray) : Prop :=
  ∃ cs : Array Value, w.heap[b]? = some (.cells cs 9 (0, 0)) ∧ cs.size = N ∧ P.length ≤ N ∧ ∀ j, j < P.length → cs[j]? = some (.string (P.getD j default))
theorem Pcs.put {w : World} {b N : Nat} {P : List ByteArray} (h : Pcs w b N P) (hi : P.length < N) (x : ByteArray) : Pcs (w.setCell ⟨b, P.length, none⟩ (.string x)) b N (P ++ [x]) := by
  obtain ⟨cs, h1, h2, h3, h4⟩ := h
  refine ⟨cs.setIfInBounds P.length (.string x), blk_setCell h1 _ _, by simp [h2], by simp; omega, fun j hj => ?_⟩
  simp at hj
  by_cases e : j = P.length
  · subst e
    simp [List.getD, h2, hi]
  · have hj2 : j < P.length := by omega
    rw [Array.getElem?_setIfInBounds_ne (Ne.symm e), h4 j hj2]
    simp [List.getD, List.getElem?_append_left hj2]
theorem Pcs.cell {w : World} {b N : Nat} {P : List ByteArray} (h : Pcs w b N P) (i : Nat) (hi : i < N) : (∃ u, w.cell? ⟨b, i, none⟩ = some u) ∧ w.frozen? ⟨b, i, none⟩ = false := by
  obtain ⟨cs, h1, h2, h3, h4⟩ := h
  exact ⟨⟨cs[i]'(by omega), by rw [blk_cell h1]; simp [h2, hi]⟩, blk_frozen h1 i⟩
theorem Pcs.ss {w : World} {b N : Nat} {P : List ByteArray} (h : Pcs w b N P) (n : Nat) (hn : n = P.length) : Ss w (.slice (some ⟨b, 0, none⟩) n N) P := by
  subst hn
  obtain ⟨cs, h1, h2, h3, h4⟩ := h
  refine ⟨_, _, rfl, h3, (fun h => by cases h), fun i hi => ⟨b, 0, rfl, ?_⟩⟩
  rw [blk_cell h1, Nat.zero_add]
  exact h4 i hi

theorem extract_all (s : ByteArray) : s.extract 0 s.size = s := by
  apply bs_inj
  rw [bs_extract]
  simp [List.take_of_length_le, bs_len]

theorem made9 (N : Nat) (b : Nat) (w : World) (h : w.heap[b]? = some (.cells (madeCells #[.string ⟨#[]⟩] N) 9 (0, 0))) : Pcs w b N [] := by
  refine ⟨_, h, ?_, by simp, fun j hj => by simp at hj⟩
  simp [madeCells]

set_option maxHeartbeats 3200000 in
set_option maxRecDepth 100000 in
theorem gen42 (s : ByteArray) (w : World) (hs : s.size ≤ 100000000) :
    Calls Tryz.prog 126 #[.string s, .string ⟨#[47]⟩, .int .i64 0, .int .i64 9] w fun e w' => ∃ v, e = .returned v ∧ Ss w' v (spN 47 8 s) ∧ Below w.heap.size w w' := by
  obtain ⟨M, hM⟩ : ∃ M : Nat, M = min 8 s.size := ⟨_, rfl⟩
  have hmin : min (9 : Int) ((s.size : Int) + 1) = (M : Int) + 1 := by omega
  have hM8 : M ≤ 8 := by omega
  have hMs : M ≤ s.size := by omega
  have ES : Hid (spN 47 8 s = (splNL 47 M (bs s)).map st) := by
    show _ = _
    rw [spN, ← splNL_min, bs_len, hM]
  clear hM
  have hN : Hid (((M : Int) + 1) = ((M + 1 : Nat) : Int)) := by show _ = _; omega
  obtain ⟨i0, hi, hz0, hz1, hz2⟩ := info_parts info9
  go_enter Tryz.func126, Tryz.ntmps126
  go_wp2_with (at_make; refine wpList_make_row _ rfl _ _ 30 rfl 9 i0 (.string ⟨#[]⟩) Tryz.underlying30 hi hz0 hz1 rfl .i64 .i64 (M + 1) (congrArg (Value.int .i64) hN.out) (congrArg (Value.int .i64) hN.out) ?b1 ?b2 ?_)
  case b1 => rw [hz2]; omega
  case b2 => omega
  have HP := Lib.hid (made9 (M + 1) w.heap.size _ (blk_new w (.cells (madeCells #[.string ⟨#[]⟩] (M + 1)) 9 (0, 0))))
  have HB := Lib.hid ((Below.refl w.heap.size w).alloc (Nat.le_refl _) (.cells (madeCells #[.string ⟨#[]⟩] (M + 1)) 9 (0, 0)))
  generalize w.alloc (.cells (madeCells #[.string ⟨#[]⟩] (M + 1)) 9) = w1 at *
  go_wp2_with fail
  have hsz := HB.out.size
  go_loopw [0, 10] (fun c i wr => ∃ (P : List ByteArray) (cur : ByteArray), P.length ≤ M ∧ c = .string cur ∧ i = .int .i64 P.length ∧ cur.size ≤ s.size ∧ Pcs wr w.heap.size (M + 1) P ∧ (splNL 47 M (bs s)).map st = P ++ (splNL 47 (M - P.length) (bs cur)).map st ∧ Below w.heap.size w wr) (fun _ i _ => M - (intOf i).toNat)
  case atStart => exact ⟨[], s, by simp, rfl, rfl, Nat.le_refl _, HP.out, by simp, HB.out⟩
  case round =>
    obtain ⟨P, cur, hP, rfl, rfl, hcs, hpc, hsp, hbw⟩ := hrel
    have HPC := Lib.hid hpc
    have HSP := Lib.hid hsp
    have HW := Lib.hid hbw
    obtain ⟨⟨u, hu⟩, hfz⟩ := hpc.cell P.length (by omega)
    clear hpc hsp hbw
    have hc9 : cur.size ≤ 100000000 := by omega
    by_cases hlt : P.length < M
    · have c0 : (P.length : Int) < (M : Int) := by omega
      have c1 : (P.length : Int) < (M : Int) + 1 := by omega
      rcases ix_cases cur with ⟨h1, h2⟩ | ⟨j, h1, hj, h2, h3⟩
      · have E1 : Hid (spN 47 8 s = P ++ [cur]) := by
          show _ = _
          rw [ES.out, HSP.out, splNL_none 47 _ _ h2]
          simp [st_bs]
        have HP2 := Lib.hid (HPC.out.put (by omega) cur)
        have HW2 := Lib.hid (HW.out.setCell (p := ⟨w.heap.size, P.length, none⟩) (by exact Nat.le_refl _) (.string cur))
        have c2 : (P.length : Int) + 1 ≤ (M : Int) + 1 := by omega
        go_wp2_with (go_at_call 138; refine (index56 _ _).mono ?_; rintro e w' ⟨rfl, rfl⟩; rw [h1])
        rw [E1.out]
        go_ret
        exact ⟨_, rfl, HP2.out.ss _ (by simp), HW2.out⟩
      · have HSP1 : Hid ((splNL 47 M (bs s)).map st = (P ++ [cur.extract 0 j]) ++ (splNL 47 (M - (P ++ [cur.extract 0 j]).length) (bs (cur.extract (j + 1) cur.size))).map st) := by
          show _ = _
          rw [HSP.out]
          obtain ⟨q, hq⟩ : ∃ q, M - P.length = q + 1 := ⟨M - P.length - 1, by omega⟩
          have hq2 : M - (P ++ [cur.extract 0 j]).length = q := by simp; omega
          rw [hq, hq2, h2, splNL_mark 47 q _ _ h3, bs_tail, List.map_cons, List.append_assoc, List.singleton_append]
          congr 2
          have : (bs cur).take j = bs (cur.extract 0 j) := by rw [bs_extract]; simp
          rw [this, st_bs]
        have HP2 := Lib.hid (HPC.out.put (by omega) (cur.extract 0 j))
        have HW2 := Lib.hid (HW.out.setCell (p := ⟨w.heap.size, P.length, none⟩) (by exact Nat.le_refl _) (.string (cur.extract 0 j)))
        have c2 : ¬ (j : Int) < 0 := by omega
        have c3 : (j : Int) ≤ (cur.size : Int) := by omega
        have c4 : (j : Int) + 1 ≤ (cur.size : Int) := by omega
        have hts : Hid ((cur.extract (j + 1) cur.size).size ≤ s.size) := by show _ ≤ _; rw [← bs_len, bs_tail, List.length_drop, bs_len]; omega
        go_wp2_with (go_at_call 138; refine (index56 _ _).mono ?_; rintro e w' ⟨rfl, rfl⟩; rw [h1])
        go_roundw
        case rel => exact ⟨P ++ [cur.extract 0 j], cur.extract (j + 1) cur.size, by simp; omega, rfl, by simp, hts.out, HP2.out, HSP1.out, HW2.out⟩
        case measure => simp [intOf]; omega
    · obtain hPM : P.length = M := by omega
      have c0 : ¬ (P.length : Int) < (M : Int) := by omega
      have c1 : (P.length : Int) < (M : Int) + 1 := by omega
      have E1 : Hid (spN 47 8 s = P ++ [cur]) := by
        show _ = _
        rw [ES.out, HSP.out, hPM, Nat.sub_self, splNL]
        simp [st_bs]
      have HP2 := Lib.hid (HPC.out.put (by omega) cur)
      have HW2 := Lib.hid (HW.out.setCell (p := ⟨w.heap.size, P.length, none⟩) (by exact Nat.le_refl _) (.string cur))
      have c2 : (P.length : Int) + 1 ≤ (M : Int) + 1 := by omega
      clear hPM
      go_wp2
      rw [E1.out]
      go_ret
      exact ⟨_, rfl, HP2.out.ss _ (by simp), HW2.out⟩
set_option maxHeartbeats 800000 in
theorem splitN23 (s : ByteArray) (w : World) (hs : s.size ≤ 100000000) :
    Calls Tryz.prog 112 #[.string s, .string ⟨#[47]⟩, .int .i64 9] w fun e w' => ∃ v, e = .returned v ∧ Ss w' v (spN 47 8 s) ∧ Below w.heap.size w w' := by
  go_enter Tryz.func112, Tryz.ntmps112
  go_wp2_with fail
  refine (gen42 _ _ hs).mono ?_
  rintro e w1 ⟨v, rfl, h1, h2⟩
  have H1 := Lib.hid h1
  have H2 := Lib.hid h2
  obtain ⟨A, n, c, rfl⟩ := h1.shape
  clear h1 h2
  go_wp2
  go_ret
  exact ⟨_, rfl, H1.out, H2.out⟩
end Go.Proofs.YthigandmemifoaaGreatDoor

namespace Go.Proofs.YthigandmemifoaaGreatDoor
open Go.RowKit Go.PlainAid
set_option maxRecDepth 100000

theorem bt_tail (s : ByteArray) (k j : Nat) : bt (s.extract k s.size) j = bt s (k + j) := by
  rw [← bs_at, ← bs_at, bs_tail]
  simp [List.getD]
theorem tail_size (s : ByteArray) (k : Nat) : (s.extract k s.size).size = s.size - k := by
  rw [← bs_len, bs_tail, List.length_drop, bs_len]

/-- what the next byte does -/
theorem nx_cases (s : ByteArray) (k : Nat) (hk : k < s.size) :
    (nxN (s.extract k s.size) = 0 ∧ nxC (s.extract k s.size) = 0 ∧ decL ((bs s).drop k) = none) ∨
    ∃ (m : Nat) (c : Int), 0 < m ∧ m ≤ 3 ∧ k + m ≤ s.size ∧ nxN (s.extract k s.size) = (m : Int) ∧ nxC (s.extract k s.size) = c ∧ decL ((bs s).drop k) = (decL ((bs s).drop (k + m))).map (c :: ·) := by
  have hl := bs_len s
  have e0 := bt_tail s k 0
  have e1 := bt_tail s k 1
  have e2 := bt_tail s k 2
  rw [Nat.add_zero] at e0
  by_cases hp : pl (bt s k) = true
  · refine Or.inr ⟨1, bt s k, by omega, by omega, by omega, ?_, ?_, ?_⟩
    · simp [nxN, e0, hp]
    · simp [nxC, e0, hp]
    · have := dec_step1 (bs s) k (by omega) (by rw [bs_at]; exact hp)
      rw [bs_at] at this
      exact this
  · have hp : pl (bt s k) = false := by simpa using hp
    by_cases h : bt s k = 37 ∧ k + 2 < s.size ∧ hd (bt s (k + 1)) = true ∧ hd (bt s (k + 2)) = true
    · have hn : nxIs (s.extract k s.size) = true := by
        unfold nxIs
        rw [e0, e1, e2, tail_size]
        exact decide_eq_true ⟨h.1, by omega, h.2.2⟩
      refine Or.inr ⟨3, hv (bt s (k + 1)) * 16 + hv (bt s (k + 2)), by omega, by omega, by omega, ?_, ?_, ?_⟩
      · simp [nxN, e0, hp, hn]
      · simp [nxC, e0, e1, e2, hp, hn]
      · have := dec_step3 (bs s) k (by omega) (by rw [bs_at]; exact hp) (by rw [bs_at]; exact h.1) (by rw [bs_at]; exact h.2.2.1) (by rw [bs_at]; exact h.2.2.2)
        rw [bs_at, bs_at] at this
        exact this
    · have hn : nxIs (s.extract k s.size) = false := by
        unfold nxIs
        rw [e0, e1, e2, tail_size]
        exact decide_eq_false (fun ⟨a, b, c⟩ => h ⟨a, by omega, c⟩)
      refine Or.inl ⟨?_, ?_, ?_⟩
      · simp [nxN, e0, hp, hn]
      · simp [nxC, e0, hp, hn]
      · refine dec_step0 (bs s) k (by omega) (by rw [bs_at]; exact hp) ?_
        rw [bs_at, bs_at, bs_at, hl]
        exact h

/-- the first k bytes say pre -/
def Mid (s : ByteArray) (k : Nat) (pre : List Int) : Prop := k ≤ s.size ∧ pre.length ≤ k ∧ decL (bs s) = (decL ((bs s).drop k)).map (pre ++ ·)
theorem mid_zero (s : ByteArray) : Mid s 0 [] := ⟨by omega, by simp, by simp⟩
theorem mid_step {s : ByteArray} {k : Nat} {pre : List Int} (h : Mid s k pre) {m : Nat} {c : Int} (hm : 0 < m) (hk : k + m ≤ s.size) (hd' : decL ((bs s).drop k) = (decL ((bs s).drop (k + m))).map (c :: ·)) : Mid s (k + m) (pre ++ [c]) := by
  refine ⟨hk, by have := h.2.1; simp; omega, ?_⟩
  rw [h.2.2, hd', Option.map_map]
  congr 1
  funext x
  simp
theorem mid_none {s : ByteArray} {k : Nat} {pre : List Int} (h : Mid s k pre) (hd' : decL ((bs s).drop k) = none) : decS s = ⟨#[]⟩ ∧ decB s = false := by
  have e : decL (bs s) = none := by rw [h.2.2, hd']; rfl
  simp [decS, decB, e, st]
theorem mid_end {s : ByteArray} {pre : List Int} (h : Mid s s.size pre) : decS s = st pre ∧ decB s = true := by
  have e : decL (bs s) = some pre := by rw [h.2.2, List.drop_eq_nil_of_le (by rw [bs_len]; omega)]; simp [decL]
  simp [decS, decB, e]

set_option maxHeartbeats 1600000 in
theorem decodeP (s : ByteArray) (w : World) (hs : s.size ≤ 100000000) : Calls Tryz.prog 77 #[.string s] w fun e w' => e = .returned (.tuple #[.string (decS s), .bool (decB s)]) ∧ Below w.heap.size w w' := by
  go_enter Tryz.func77, Tryz.ntmps77
  go_wp2_with (at_make; refine wpList_mk _ rfl _ _ rfl _ s.size rfl rfl rfl (by omega) ?_)
  intro v0 w0 h0
  have H0 := Lib.hid h0
  clear h0
  go_wp2_with fail
  go_loopw [4, 5] (fun v i wr => ∃ (k : Nat) (pre : List Int), k ≤ s.size ∧ i = .int .i64 k ∧ Mid s k pre ∧ Own w.heap.size w v pre wr) (fun _ i _ => s.size - (intOf i).toNat)
  case atStart => exact ⟨0, [], Nat.zero_le _, rfl, mid_zero s, H0.out⟩
  case round =>
    obtain ⟨k, pre, hk, rfl, hmid, hown⟩ := hrel
    have HO := Lib.hid hown
    have HM := Lib.hid hmid
    clear hown hmid
    have eb : Hid (pre.length ≤ 1000000000) := by have := HM.out.2.1; show _ ≤ _; omega
    by_cases hlt : k < s.size
    · have c0 : (k : Int) < (s.size : Int) := by omega
      have c1 : (k : Int) ≤ (s.size : Int) := by omega
      have hts := tail_size s k
      rcases nx_cases s k hlt with ⟨n1, n2, n3⟩ | ⟨m, c, hm0, hm3, hkm, n1, n2, n3⟩
      · obtain ⟨d1, d2⟩ := mid_none HM.out n3
        go_wp2_with (first | (go_at_call 91; refine (nextP _ _ (by omega) (by omega)).mono ?_; rintro e w' ⟨rfl, rfl⟩; rw [n1, n2]))
        rw [d1, d2]
        go_ret2
        exact ⟨rfl, HO.out.2.1⟩
      · have t0 : ¬ (m : Int) = 0 := by omega
        have t1 : ((m : Int) == 0) = false := by simpa using t0
        have HM1 := Lib.hid (mid_step HM.out hm0 hkm n3)
        go_wp2_with (first | (go_at_call 91; refine (nextP _ _ (by omega) (by omega)).mono ?_; rintro e w' ⟨rfl, rfl⟩; rw [n1, n2]) | (at_builtin; refine wpList_app _ rfl (.tmp 24) (.tmp 26) rfl w.heap.size w _ _ rfl (HO.out.alloc _) ?b1 wr.heap.size 1 1 [c] rfl rfl (by omega) (heap_alloc_new _ _) ?_))
        case b1 => exact eb.out
        intro v1 w1 h1
        have H1 := Lib.hid h1
        clear h1
        go_wp2_with fail
        go_roundw
        case rel => exact ⟨k + m, _, hkm, by go_num, HM1.out, H1.out⟩
        case measure => simp [intOf]; omega
    · obtain rfl : k = s.size := by omega
      obtain ⟨d1, d2⟩ := mid_end HM.out
      have hcv := own_text HO.out
      go_wp2
      rw [d1, d2]
      go_ret2
      exact ⟨rfl, HO.out.2.1⟩
end Go.Proofs.YthigandmemifoaaGreatDoor

namespace Go.Proofs.YthigandmemifoaaGreatDoor
open Go.RowKit Go.PlainAid
set_option maxRecDepth 100000

theorem gt_at (q : List Pr) (n : ByteArray) (k : Nat) (h : k < q.length) (ha : (q.take k).all (fun x => decide (¬ x.1 = n)) = true) (he : (q.getD k default).1 = n) : gtS q n = (q.getD k default).2 ∧ gtB q n = true := by
  have e : gtF q n = some (q.getD k default).2 := by
    rw [gtF]
    conv => lhs; rw [← List.take_append_drop k q]
    rw [List.find?_append, List.find?_eq_none.2 ?_, Option.none_or, List.drop_eq_getElem_cons h, List.find?_cons_of_pos]
    · simp [List.getD, h]
    · simp only [List.getD, List.getElem?_eq_getElem h, Option.getD_some] at he
      exact decide_eq_true he
    · intro x hx
      rw [List.all_eq_true] at ha
      have := of_decide_eq_true (ha x hx)
      simpa using this
  rw [gtS, gtB, e]
  exact ⟨rfl, rfl⟩
theorem gt_none (q : List Pr) (n : ByteArray) (ha : q.all (fun x => decide (¬ x.1 = n)) = true) : gtS q n = ⟨#[]⟩ ∧ gtB q n = false := by
  have e : gtF q n = none := by
    rw [gtF, List.find?_eq_none.2 ?_]
    · rfl
    · intro x hx
      rw [List.all_eq_true] at ha
      have := of_decide_eq_true (ha x hx)
      simpa using this
  rw [gtS, gtB, e]
  exact ⟨rfl, rfl⟩

set_option maxHeartbeats 1600000 in
theorem get45 (v1 v2 : Value) (p : List ByteArray) (q : List Pr) (n : ByteArray) (w : World) (h1 : Ss w v1 p) (h2 : Ps w v2 q) (hz : q.length ≤ 1000000000) :
    Calls Tryz.prog 18 #[.agg #[v1, v2], .string n] w fun e w' => e = .returned (.tuple #[.string (gtS q n), .bool (gtB q n)]) ∧ Below w.heap.size w w' := by
  obtain ⟨A1, n1, c1, rfl⟩ := h1.shape
  clear h1
  obtain ⟨A2, c2, rfl, _, _, hc⟩ := h2
  have HC := Lib.hid hc
  clear hc
  have HK := Lib.hid (blk_new w (.cells #[.slice A1 n1 c1, .slice A2 q.length c2] 33 (0, 0)))
  have HB := Lib.hid ((Below.refl w.heap.size w).alloc (Nat.le_refl _) (.cells #[.slice A1 n1 c1, .slice A2 q.length c2] 33 (0, 0)))
  go_enter Tryz.func18, Tryz.ntmps18
  go_wp2_with fail
  generalize w.alloc (.cells #[.slice A1 n1 c1, .slice A2 q.length c2] 33) = w5 at *
  have hsz := HB.out.size
  have hlt5 := blk_lt HK.out
  go_loopw [11] (fun i wr => ∃ (k : Nat), k ≤ q.length ∧ i = .int .i64 k ∧ (q.take k).all (fun x => decide (¬ x.1 = n)) = true ∧ Below w5.heap.size w5 wr) (fun i _ => q.length - (intOf i).toNat)
  case atStart => exact ⟨0, Nat.zero_le _, rfl, by simp, Below.refl _ _⟩
  case round =>
    obtain ⟨k, hk, rfl, hall, hB6⟩ := hrel
    have HA := Lib.hid hall
    have H6 := Lib.hid hB6
    clear hall hB6
    by_cases hlt : k < q.length
    · obtain ⟨b, o, rfl, hcell, hcelb⟩ := HC.out k hlt
      have g1 : wr.cell? ⟨b, o + k * 2, none⟩ = some (.string (q.getD k default).1) := by
        have hl := World.block_lt_of_cell? _ _ hcell
        rw [H6.out.cell (show b < w5.heap.size by have : b < w.heap.size := hl; omega), HB.out.cell hl]; exact hcell
      have g2 : wr.cell? ⟨b, o + k * 2 + 1, none⟩ = some (.string (q.getD k default).2) := by
        have hl := World.block_lt_of_cell? _ _ hcelb
        rw [H6.out.cell (show b < w5.heap.size by have : b < w.heap.size := hl; omega), HB.out.cell hl]; exact hcelb
      have c0 : (k : Int) < (q.length : Int) := by omega
      have HL := Lib.hid (all_next (fun x : Pr => decide (¬ x.1 = n)) q k hlt)
      have HQ := Lib.hid (gt_at q n k hlt HA.out)
      clear hcell hcelb
      generalize q.getD k default = x at *
      obtain ⟨x, y⟩ := x
      simp only at g1 g2
      have hsz6 := H6.out.size
      by_cases hx : x = n
      · have q1 := str_beq x n hx
        obtain ⟨e1, e2⟩ := HQ.out hx
        have E1 := Lib.hid e1
        have E2 := Lib.hid e2
        clear e1 e2 hx
        go_wp2
        rw [E1.out, E2.out]
        go_ret2
        exact ⟨rfl, HB.out.trans ((H6.out.alloc (by omega) _).mono hsz)⟩
      · have q1 := str_bne x n hx
        have HX := Lib.hid hx
        clear hx
        go_wp2_with fail
        go_roundw
        case rel => exact ⟨k + 1, by omega, by go_num, by rw [HL.out, HA.out, Bool.true_and]; exact decide_eq_true HX.out, H6.out.alloc (by omega) _⟩
        case measure => simp [intOf]; omega
    · obtain rfl : k = q.length := by omega
      obtain ⟨e1, e2⟩ := gt_none q n (by simpa using HA.out)
      have E1 := Lib.hid e1
      have E2 := Lib.hid e2
      clear e1 e2
      go_wp2
      rw [E1.out, E2.out]
      go_ret2
      exact ⟨rfl, HB.out.trans (H6.out.mono hsz)⟩
end Go.Proofs.YthigandmemifoaaGreatDoor

namespace Go.Proofs.YthigandmemifoaaGreatDoor
open Go.RowKit Go.PlainAid
set_option maxRecDepth 100000
theorem spN_len (s : ByteArray) : (spN 47 8 s).length ≤ 9 := by
  rw [spN, List.length_map]
  exact (splNL_len 47 8 (bs s)).2
theorem spN_size (s : ByteArray) : ∀ p ∈ spN 47 8 s, p.size ≤ s.size := by
  intro p hp
  rw [spN, List.mem_map] at hp
  obtain ⟨q, hq, rfl⟩ := hp
  rw [st_size]
  have := splNL_size 47 8 (bs s) q hq
  rw [bs_len] at this
  exact this
theorem splNL_inR (m : Int) : ∀ (n : Nat) (l : List Int), InR l → ∀ q ∈ splNL m n l, InR q := by
  intro n
  induction n with
  | zero => intro l hl q hq; simp [splNL] at hq; rw [hq]; exact hl
  | succ n ih =>
    intro l hl q hq
    rcases first_mark m l with hm | ⟨p, r, rfl, hm⟩
    · rw [splNL_none m _ l hm] at hq; simp at hq; rw [hq]; exact hl
    · rw [splNL_mark m n p r hm, List.mem_cons] at hq
      rcases hq with rfl | hq
      · exact fun x hx => hl x (by simp [hx])
      · exact ih r (fun x hx => hl x (by simp [hx])) q hq

def spL (v : ByteArray) : List ByteArray := (spO v).getD []
def spB (v : ByteArray) : Bool := (spO v).isSome
theorem sp_nil {v : ByteArray} (h : v.size = 0) : spB v = true ∧ spL v = [] := by
  rw [spB, spL, spO, if_pos h]; exact ⟨rfl, rfl⟩
theorem sp_yes {v : ByteArray} (h : ¬ v.size = 0) (ha : (spN 47 8 v).all decB = true) : spB v = true ∧ spL v = (spN 47 8 v).map decS := by
  rw [spB, spL, spO, if_neg h, if_pos ha]; exact ⟨rfl, rfl⟩
theorem sp_no {v : ByteArray} (h : ¬ v.size = 0) (ha : (spN 47 8 v).all decB = false) : spB v = false ∧ spL v = [] := by
  rw [spB, spL, spO, if_neg h, if_neg (by rw [ha]; decide)]; exact ⟨rfl, rfl⟩

set_option maxHeartbeats 3200000 in
theorem split46 (s : ByteArray) (w : World) (hs : s.size ≤ 100000000) :
    Calls Tryz.prog 102 #[.string s] w fun e w' => ∃ v, e = .returned (.tuple #[v, .bool (spB s)]) ∧ Ss w' v (spL s) ∧ Below w.heap.size w w' := by
  by_cases h0 : s.size = 0
  · have HE := Lib.hid (sp_nil h0)
    obtain rfl : s = ⟨#[]⟩ := by
      apply bs_inj
      apply List.eq_nil_of_length_eq_zero
      rw [bs_len]; exact h0
    clear h0
    go_enter Tryz.func102, Tryz.ntmps102
    go_wp2
    rw [HE.out.1, HE.out.2]
    go_ret2
    exact ⟨_, rfl, ss_nil _, Below.refl _ _⟩
  · have q0 : (s.toList == []) = false := by
      have h1 : ¬ s = ⟨#[]⟩ := fun h => h0 (by rw [h]; rfl)
      have := bs_eq s ⟨#[]⟩
      rw [decide_eq_false h1, Lib.toList_data ⟨#[]⟩] at this
      exact this
    have HY := Lib.hid (@sp_yes s h0)
    have HN := Lib.hid (@sp_no s h0)
    have HSz := Lib.hid (spN_size s)
    have hl9 := spN_len s
    clear h0
    go_enter Tryz.func102, Tryz.ntmps102
    go_wp2_with fail
    refine (splitN23 _ _ hs).mono ?_
    rintro e w1 ⟨v, rfl, h1, h2⟩
    generalize spN 47 8 s = L at *
    obtain ⟨A, cap, rfl, _, _, hcl⟩ := h1
    have HC := Lib.hid hcl
    have HB := Lib.hid h2
    clear hcl h2
    go_wp2_with (at_make; refine wpList_mkS _ rfl _ _ rfl w1.heap.size w1 (Below.refl _ _) (Nat.le_refl _) _ L.length rfl rfl rfl (by omega) ?_)
    intro v2 w2 h2 _
    have H2 := Lib.hid h2
    clear h2
    go_wp2_with fail
    go_loopw [5, 19] (fun v i wr => ∃ (k : Nat), k ≤ L.length ∧ i = .int .i64 k ∧ (L.take k).all decB = true ∧ OwnS w1.heap.size w1 v ((L.take k).map decS) wr) (fun _ i _ => L.length - (intOf i).toNat)
    case atStart => exact ⟨0, Nat.zero_le _, rfl, by simp, H2.out⟩
    case round =>
      obtain ⟨k, hk, rfl, hall, hown⟩ := hrel
      have HO := Lib.hid hown
      have HA := Lib.hid hall
      clear hown hall
      have HBr := Lib.hid (HB.out.trans (HO.out.2.1.mono HB.out.size))
      by_cases hlt : k < L.length
      · have d0 : (k : Int) < (L.length : Int) := by omega
        obtain ⟨x, o, rfl, hcell⟩ := HC.out k hlt
        have g1 : wr.cell? ⟨x, o + k, none⟩ = some (.string (L.getD k default)) := by rw [HO.out.2.1.cell (World.block_lt_of_cell? _ _ hcell)]; exact hcell
        have hsz : (L.getD k default).size ≤ s.size := HSz.out _ (getD_mem L k hlt)
        have HT := Lib.hid (take_next decS L k hlt)
        have HL := Lib.hid (all_next decB L k hlt)
        have HQ := Lib.hid (all_not decB L k hlt)
        have eb : Hid (((L.take k).map decS).length ≤ 1000000000) := by show _ ≤ _; rw [List.length_map, List.length_take]; omega
        have eb2 : (L.getD k default).size ≤ 100000000 := by omega
        clear hcell hsz
        generalize L.getD k default = p at *
        by_cases hp : decB p = true
        · go_wp2_with (first | (go_at_call 77; refine (decodeP _ _ eb2).mono ?_; rintro e w3 ⟨rfl, h3⟩; rw [hp]; have HO3 := Lib.hid (HO.out.call h3); clear h3) | (at_builtin; refine wpList_appS _ rfl (.tmp 30) (.tmp 32) rfl w1.heap.size w1 _ _ rfl (HO3.out.alloc _) ?b1 w3.heap.size 1 1 [decS p] rfl rfl (by omega) (heap_alloc_new _ _) ?_))
          case b1 => exact eb.out
          intro v4 w4 h4 _ _
          have H4 : Hid (OwnS w1.heap.size w1 v4 ((L.take (k + 1)).map decS) w4) := by show OwnS _ _ _ _ _; rw [HT.out, List.map_take]; exact h4
          clear h4
          go_wp2_with fail
          go_roundw
          case rel => exact ⟨k + 1, by omega, by go_num, by rw [HL.out, HA.out, hp]; rfl, H4.out⟩
          case measure => simp [intOf]; omega
        · have hp : decB p = false := by simpa using hp
          have HE := Lib.hid (HN.out (HQ.out hp))
          go_wp2_with (first | (go_at_call 77; refine (decodeP _ _ eb2).mono ?_; rintro e w3 ⟨rfl, h3⟩; rw [hp]; have H3 := Lib.hid h3; clear h3))
          rw [HE.out.1, HE.out.2]
          go_ret2
          exact ⟨_, rfl, ss_nil _, HBr.out.trans (H3.out.mono HBr.out.size)⟩
      · obtain rfl : k = L.length := by omega
        have HE := Lib.hid (HY.out (by rw [← HA.out, List.take_length]))
        have hgs := HO.out.ss
        rw [List.take_length] at hgs
        have HG := Lib.hid hgs
        clear hgs
        go_wp2
        rw [HE.out.1, HE.out.2]
        go_ret2
        exact ⟨_, rfl, HG.out, HBr.out⟩

def gvL (g : Sg) (ps : List Pr) : List ByteArray := (gvO g ps).getD []
def gvB (g : Sg) (ps : List Pr) : Bool := (gvO g ps).isSome
theorem gt_mem {q : List Pr} {n : ByteArray} (h : gtB q n = true) : ∃ p ∈ q, p.1 = n ∧ gtS q n = p.2 := by
  unfold gtB at h
  obtain ⟨v, hv⟩ := Option.isSome_iff_exists.1 h
  unfold gtS
  rw [hv]
  unfold gtF at hv
  rw [Option.map_eq_some_iff] at hv
  obtain ⟨p, hp, rfl⟩ := hv
  exact ⟨p, List.mem_of_find?_eq_some hp, by simpa using List.find?_some hp, rfl⟩
theorem gv_cases (g1 : Int) (g2 : ByteArray) (ps : List Pr) :
    (g1 = 0 ∧ gvB (g1, g2) ps = true ∧ gvL (g1, g2) ps = [g2]) ∨
    (g1 ≠ 0 ∧ g1 = 2 ∧ gtB ps g2 = false ∧ gvB (g1, g2) ps = true ∧ gvL (g1, g2) ps = []) ∨
    (g1 ≠ 0 ∧ g1 ≠ 2 ∧ gtB ps g2 = false ∧ gvB (g1, g2) ps = false ∧ gvL (g1, g2) ps = []) ∨
    (g1 ≠ 0 ∧ g1 = 3 ∧ gtB ps g2 = true ∧ gvB (g1, g2) ps = spB (gtS ps g2) ∧ gvL (g1, g2) ps = spL (gtS ps g2)) ∨
    (g1 ≠ 0 ∧ g1 ≠ 3 ∧ gtB ps g2 = true ∧ gvB (g1, g2) ps = true ∧ gvL (g1, g2) ps = [gtS ps g2]) := by
  by_cases h0 : g1 = 0
  · subst h0; exact Or.inl ⟨rfl, rfl, rfl⟩
  rcases hg : gtF ps g2 with _ | v
  · have hb : gtB ps g2 = false := by rw [gtB, hg]; rfl
    by_cases h2 : g1 = 2
    · refine Or.inr (Or.inl ⟨h0, h2, hb, ?_, ?_⟩) <;> simp [gvB, gvL, gvO, hg, h2]
    · refine Or.inr (Or.inr (Or.inl ⟨h0, h2, hb, ?_, ?_⟩)) <;> simp [gvB, gvL, gvO, h0, hg, h2]
  · have hb : gtB ps g2 = true := by rw [gtB, hg]; rfl
    have hs : gtS ps g2 = v := by rw [gtS, hg]; rfl
    rw [hs]
    by_cases h3 : g1 = 3
    · refine Or.inr (Or.inr (Or.inr (Or.inl ⟨h0, h3, hb, ?_, ?_⟩))) <;> simp [gvB, gvL, gvO, hg, h3, spB, spL]
    · refine Or.inr (Or.inr (Or.inr (Or.inr ⟨h0, h3, hb, ?_, ?_⟩))) <;> simp [gvB, gvL, gvO, h0, hg, h3]

set_option maxHeartbeats 3200000 in
theorem give27 (g1 : Int) (g2 : ByteArray) (v : Value) (q : List Pr) (w : World) (h : Ps w v q) (hz : q.length ≤ 1000000000) (hs : ∀ p ∈ q, p.2.size ≤ 100000000) :
    Calls Tryz.prog 87 #[.agg #[.int .i64 g1, .string g2], v] w fun e w' => ∃ v', e = .returned (.tuple #[v', .bool (gvB (g1, g2) q)]) ∧ Ss w' v' (gvL (g1, g2) q) ∧ Below w.heap.size w w' := by
  have HB := Lib.hid ((Below.refl w.heap.size w).alloc (Nat.le_refl _) (.cells #[.int .i64 g1, .string g2] 28 (0, 0)))
  have HX := Lib.hid (blk_new w (.cells #[.int .i64 g1, .string g2] 28 (0, 0)))
  have HP := Lib.hid (h.call HB.out)
  have HS := Lib.hid hs
  obtain ⟨A, n, c, rfl⟩ := h.shape
  clear h hs
  rcases gv_cases g1 g2 q with ⟨rfl, e1, e2⟩ | ⟨h0, rfl, hg, e1, e2⟩ | ⟨h0, h2, hg, e1, e2⟩ | ⟨h0, rfl, hg, e1, e2⟩ | ⟨h0, h3, hg, e1, e2⟩
  · rw [e1, e2]
    clear e1 e2
    go_enter Tryz.func87, Tryz.ntmps87
    go_wp2
    go_ret2
    exact ⟨_, rfl, ss_new (l := [g2]) (blk_new1 _ _ _) rfl, HB.out.alloc HB.out.size _⟩
  · rw [e1, e2]
    clear e1 e2
    go_enter Tryz.func87, Tryz.ntmps87
    go_wp2_with fail
    generalize w.alloc (.cells #[.int .i64 2, .string g2] 28) = w5 at *
    refine (get45 _ _ [] q g2 _ (ss_nil _) HP.out hz).mono ?_
    rintro e w1 ⟨rfl, h1⟩
    rw [hg]
    have HB1 := Lib.hid (HB.out.trans (h1.mono HB.out.size))
    obtain ⟨k0, k1, _, _⟩ := blk2 (blk_call HX.out h1)
    clear h1
    go_wp2_with fail
    go_region
    go_wp2
    go_ret2
    exact ⟨_, rfl, ss_nil _, HB1.out.drew⟩
  · rw [e1, e2]
    clear e1 e2
    have q2 : (g1 == 2) = false := by simpa using h2
    have q0 : (g1 == 0) = false := by simpa using h0
    go_enter Tryz.func87, Tryz.ntmps87
    go_wp2_with fail
    generalize w.alloc (.cells #[.int .i64 g1, .string g2] 28) = w5 at *
    refine (get45 _ _ [] q g2 _ (ss_nil _) HP.out hz).mono ?_
    rintro e w1 ⟨rfl, h1⟩
    rw [hg]
    have HB1 := Lib.hid (HB.out.trans (h1.mono HB.out.size))
    obtain ⟨k0, k1, _, _⟩ := blk2 (blk_call HX.out h1)
    clear h1
    go_wp2_with fail
    go_region
    go_wp2
    go_ret2
    exact ⟨_, rfl, ss_nil _, HB1.out.drew⟩
  · rw [e1, e2]
    have HZ : Hid ((gtS q g2).size ≤ 100000000) := by
      obtain ⟨p, hp, _, h2⟩ := gt_mem hg
      show _ ≤ _
      rw [h2]
      exact HS.out p hp
    clear e1 e2
    obtain ⟨T, hT⟩ : ∃ T, gtS q g2 = T := ⟨_, rfl⟩
    rw [hT] at HZ ⊢
    go_enter Tryz.func87, Tryz.ntmps87
    go_wp2_with fail
    generalize w.alloc (.cells #[.int .i64 3, .string g2] 28) = w5 at *
    refine (get45 _ _ [] q g2 _ (ss_nil _) HP.out hz).mono ?_
    rintro e w1 ⟨rfl, h1⟩
    rw [hg, hT]
    have HB1 := Lib.hid (HB.out.trans (h1.mono HB.out.size))
    obtain ⟨k0, k1, _, _⟩ := blk2 (blk_call HX.out h1)
    clear h1
    go_wp2_with (first | (go_at_call 102; refine (split46 _ _ HZ.out).mono ?_; rintro e w2 ⟨v2, rfl, h2, h3⟩; have H2 := Lib.hid h2; have H3 := Lib.hid h3; obtain ⟨A2, n2, c2, rfl⟩ := h2.shape; clear h2 h3))
    go_ret2
    exact ⟨_, rfl, H2.out, HB1.out.trans (H3.out.mono HB1.out.size)⟩
  · rw [e1, e2]
    clear e1 e2
    obtain ⟨T, hT⟩ : ∃ T, gtS q g2 = T := ⟨_, rfl⟩
    rw [hT]
    have q3 : (g1 == 3) = false := by simpa using h3
    have q0 : (g1 == 0) = false := by simpa using h0
    go_enter Tryz.func87, Tryz.ntmps87
    go_wp2_with fail
    generalize w.alloc (.cells #[.int .i64 g1, .string g2] 28) = w5 at *
    refine (get45 _ _ [] q g2 _ (ss_nil _) HP.out hz).mono ?_
    rintro e w1 ⟨rfl, h1⟩
    rw [hg, hT]
    have HB1 := Lib.hid (HB.out.trans (h1.mono HB.out.size))
    obtain ⟨k0, k1, _, _⟩ := blk2 (blk_call HX.out h1)
    clear h1
    go_wp2
    go_ret2
    exact ⟨_, rfl, ss_new (l := [T]) (blk_new _ _) rfl, HB1.out.alloc HB1.out.size _⟩
end Go.Proofs.YthigandmemifoaaGreatDoor

namespace Go.Proofs.YthigandmemifoaaGreatDoor
open Go.RowKit Go.PlainAid
set_option maxRecDepth 100000

def eqP (p q : Pr) : Bool := decide (q = p)
set_option maxHeartbeats 1600000 in
theorem idx61 (v : Value) (l : List Pr) (p1 p2 : ByteArray) (w : World) (h : Ps w v l) (hz : l.length ≤ 1000000000) :
    Calls Tryz.prog 113 #[v, .agg #[.string p1, .string p2]] w fun e w' => ∃ r : Int, e = .returned (.int .i64 r) ∧ (decide (0 ≤ r) = l.any (eqP (p1, p2))) ∧ Below w.heap.size w w' := by
  obtain ⟨A, cap, rfl, _, _, hc⟩ := h
  have HC := Lib.hid hc
  clear hc
  have HB := Lib.hid ((Below.refl w.heap.size w).alloc (Nat.le_refl _) (.cells #[.string p1, .string p2] 61 (0, 0)))
  have HV := Lib.hid (blk_new w (.cells #[.string p1, .string p2] 61 (0, 0)))
  go_enter Tryz.func113, Tryz.ntmps113
  go_wp2_with fail
  generalize w.alloc (.cells #[.string p1, .string p2] 61) = w5 at *
  have hsz := HB.out.size
  go_loopw [8] (fun i wr => ∃ (k : Nat), k ≤ l.length ∧ i = .int .i64 k ∧ (l.take k).any (eqP (p1, p2)) = false ∧ Below w5.heap.size w5 wr) (fun i _ => l.length - (intOf i).toNat)
  case atStart => exact ⟨0, Nat.zero_le _, rfl, by simp, Below.refl _ _⟩
  case round =>
    obtain ⟨k, hk, rfl, ht, hbw⟩ := hrel
    have HT := Lib.hid ht
    have HW := Lib.hid hbw
    obtain ⟨v0, v1, _, _⟩ := blk2 (blk_call HV.out hbw)
    clear ht hbw
    by_cases hlt : k < l.length
    · have d0 : (k : Int) < (l.length : Int) := by omega
      obtain ⟨x, o, rfl, hcell, hcelb⟩ := HC.out k hlt
      have g1 : wr.cell? ⟨x, o + k * 2, none⟩ = some (.string (l.getD k default).1) := by
        have hl := World.block_lt_of_cell? _ _ hcell
        rw [HW.out.cell (show x < w5.heap.size by have : x < w.heap.size := hl; omega), HB.out.cell hl]; exact hcell
      have g3 : wr.cell? ⟨x, o + k * 2 + 1, none⟩ = some (.string (l.getD k default).2) := by
        have hl := World.block_lt_of_cell? _ _ hcelb
        rw [HW.out.cell (show x < w5.heap.size by have : x < w.heap.size := hl; omega), HB.out.cell hl]; exact hcelb
      have HN := Lib.hid (any_next (eqP (p1, p2)) l k hlt)
      have HY := Lib.hid (any_at (eqP (p1, p2)) l k hlt)
      clear hcell hcelb
      generalize l.getD k default = s at *
      by_cases hp : (p1, p2) = s
      · have HP := Lib.hid (HY.out (decide_eq_true hp.symm))
        obtain ⟨q1, q2⟩ := pr_beq (p1, p2) s hp
        obtain ⟨s1, s2⟩ := s
        simp only at g1 g3 q1 q2
        clear hp
        go_wp2_with fail
        go_region
        go_wp2
        go_ret
        exact ⟨_, rfl, by rw [HP.out]; exact decide_eq_true (by omega), HB.out.trans ((HW.out.drew).mono hsz)⟩
      · have HP : Hid (eqP (p1, p2) s = false) := decide_eq_false (fun h => hp h.symm)
        have hq := pr_bne (p1, p2) s hp
        clear hp
        obtain ⟨s1, s2⟩ := s
        simp only at hq g1 g3
        rcases hq with q1 | ⟨q1, q2⟩
        all_goals
          go_wp2_with fail
          go_region
          go_wp2_with fail
          go_roundw
          case rel => exact ⟨k + 1, by omega, by go_num, by rw [HN.out, HT.out, HP.out]; rfl, HW.out.drew⟩
          case measure => simp [intOf]; omega
    · obtain rfl : k = l.length := by omega
      have E0 : Hid (l.any (eqP (p1, p2)) = false) := by show _ = _; rw [← HT.out, List.take_length]
      go_wp2
      go_ret
      exact ⟨_, rfl, by rw [E0.out]; rfl, HB.out.trans (HW.out.mono hsz)⟩
set_option maxHeartbeats 800000 in
theorem has48 (v : Value) (l : List Pr) (p1 p2 : ByteArray) (w : World) (h : Ps w v l) (hz : l.length ≤ 1000000000) :
    Calls Tryz.prog 103 #[v, .agg #[.string p1, .string p2]] w fun e w' => e = .returned (.bool (l.any (eqP (p1, p2)))) ∧ Below w.heap.size w w' := by
  have HB := Lib.hid ((Below.refl w.heap.size w).alloc (Nat.le_refl _) (.cells #[.string p1, .string p2] 61 (0, 0)))
  have H := Lib.hid (h.call HB.out)
  obtain ⟨A, n, c, rfl⟩ := h.shape
  clear h
  go_enter Tryz.func103, Tryz.ntmps103
  go_wp2_with fail
  refine (idx61 _ l p1 p2 _ H.out hz).mono ?_
  rintro e w1 ⟨r, rfl, hr, hb⟩
  have HB1 := Lib.hid (HB.out.trans (hb.mono HB.out.size))
  have HR := Lib.hid hr
  clear hb hr
  go_wp2
  rw [← HR.out]
  go_ret
  exact ⟨rfl, HB1.out⟩

theorem sm_is (a b : List Pr) : smB a b = (decide (a.length = b.length) && a.all (fun p => b.any (eqP p))) := rfl

set_option maxHeartbeats 1600000 in
theorem sameSet29 (v1 v2 : Value) (a b : List Pr) (w : World) (h1 : Ps w v1 a) (h2 : Ps w v2 b) (hz : b.length ≤ 1000000000) :
    Calls Tryz.prog 88 #[v1, v2] w fun e w' => e = .returned (.bool (smB a b)) ∧ Below w.heap.size w w' := by
  have E0 := Lib.hid (sm_is a b)
  have H2 := Lib.hid h2
  obtain ⟨A, cap, rfl, _, _, hc⟩ := h1
  obtain ⟨A2, c2, rfl, _, _, _⟩ := h2
  have HC := Lib.hid hc
  clear hc
  by_cases hl : a.length = b.length
  · have c0 : ((a.length : Int) == (b.length : Int)) = true := by simp; omega
    have c9 : ((a.length : Int) != (b.length : Int)) = false := by simp; omega
    have E1 : Hid (smB a b = a.all (fun p => b.any (eqP p))) := by show _ = _; rw [E0.out, decide_eq_true hl, Bool.true_and]
    have HL := Lib.hid hl
    have haz : a.length ≤ 1000000000 := by omega
    clear hl
    go_enter Tryz.func88, Tryz.ntmps88
    go_wp2_with fail
    (try rw [c9])
    clear c0 c9
    go_loopw [14] (fun i wr => ∃ (k : Nat), k ≤ a.length ∧ i = .int .i64 k ∧ (a.take k).all (fun p => b.any (eqP p)) = true ∧ Below w.heap.size w wr) (fun i _ => a.length - (intOf i).toNat)
    case atStart => exact ⟨0, Nat.zero_le _, rfl, by simp, Below.refl _ _⟩
    case round =>
      obtain ⟨k, hk, rfl, hall, hbw⟩ := hrel
      have HA := Lib.hid hall
      have HW := Lib.hid hbw
      clear hall hbw
      by_cases hlt : k < a.length
      · have d0 : (k : Int) < (a.length : Int) := by omega
        obtain ⟨x, o, rfl, hcell, hcelb⟩ := HC.out k hlt
        have g1 : wr.cell? ⟨x, o + k * 2, none⟩ = some (.string (a.getD k default).1) := by rw [HW.out.cell (World.block_lt_of_cell? _ _ hcell)]; exact hcell
        have g3 : wr.cell? ⟨x, o + k * 2 + 1, none⟩ = some (.string (a.getD k default).2) := by rw [HW.out.cell (World.block_lt_of_cell? _ _ hcelb)]; exact hcelb
        have HN := Lib.hid (all_next (fun p => b.any (eqP p)) a k hlt)
        have HQ := Lib.hid (all_not (fun p => b.any (eqP p)) a k hlt)
        clear hcell hcelb
        generalize a.getD k default = s at *
        obtain ⟨s1, s2⟩ := s
        simp only at g1 g3
        have HY := Lib.hid (HW.out.alloc HW.out.size (.cells #[.string s1, .string s2] 61 (0, 0)))
        have H2r := Lib.hid (H2.out.call HY.out)
        by_cases hp : b.any (eqP (s1, s2)) = true
        · go_wp2_with (go_at_call 103; refine (has48 _ b _ _ _ H2r.out hz).mono ?_; rintro e w' ⟨rfl, hb'⟩; rw [hp]; have HB' := Lib.hid hb'; clear hb')
          go_roundw
          case rel => exact ⟨k + 1, by omega, by go_num, by rw [HN.out, HA.out, Bool.true_and]; exact hp, HY.out.trans (HB'.out.mono HY.out.size)⟩
          case measure => simp [intOf]; omega
        · have hp : b.any (eqP (s1, s2)) = false := by simpa using hp
          have E2 : Hid (smB a b = false) := by show _ = _; rw [E1.out]; exact HQ.out hp
          go_wp2_with (go_at_call 103; refine (has48 _ b _ _ _ H2r.out hz).mono ?_; rintro e w' ⟨rfl, hb'⟩; rw [hp]; have HB' := Lib.hid hb'; clear hb')
          rw [E2.out]
          go_ret
          exact ⟨rfl, HY.out.trans (HB'.out.mono HY.out.size)⟩
      · obtain rfl : k = a.length := by omega
        have E2 : Hid (smB a b = true) := by show _ = _; rw [E1.out, ← HA.out, List.take_length]
        go_wp2
        rw [E2.out]
        go_ret
        exact ⟨rfl, HW.out⟩
  · have c0 : ((a.length : Int) == (b.length : Int)) = false := by simp; omega
    have c1 : ¬ (a.length : Int) = (b.length : Int) := by omega
    have E1 : Hid (smB a b = false) := by show _ = _; rw [E0.out, decide_eq_false hl]; rfl
    go_enter Tryz.func88, Tryz.ntmps88
    go_wp2
    rw [E1.out]
    go_ret
    exact ⟨rfl, Below.refl _ _⟩
end Go.Proofs.YthigandmemifoaaGreatDoor

namespace Go.Proofs.YthigandmemifoaaGreatDoor
open Go.RowKit Go.PlainAid
set_option maxRecDepth 100000

theorem isName47 (s : ByteArray) (w : World) : Calls Tryz.prog 43 #[.string s] w fun e w' => e = .returned (.bool (nameB s)) ∧ w' = w := by
  by_cases h1 : 1 ≤ s.size
  · by_cases h2 : s.size ≤ 64
    · have e : nameB s = true := decide_eq_true ⟨h1, h2⟩
      have c1 : (1 : Int) ≤ (s.size : Int) := by omega
      have c2 : (s.size : Int) ≤ 64 := by omega
      rw [e]
      go_enter Tryz.func43, Tryz.ntmps43
      go_wp2
      go_ret
      exact ⟨rfl, rfl⟩
    · have e : nameB s = false := decide_eq_false (fun h => h2 h.2)
      have c1 : (1 : Int) ≤ (s.size : Int) := by omega
      have c2 : ¬ (s.size : Int) ≤ 64 := by omega
      rw [e]
      go_enter Tryz.func43, Tryz.ntmps43
      go_wp2
      go_ret
      exact ⟨rfl, rfl⟩
  · have e : nameB s = false := decide_eq_false (fun h => h1 h.1)
    have c1 : ¬ (1 : Int) ≤ (s.size : Int) := by omega
    rw [e]
    go_enter Tryz.func43, Tryz.ntmps43
    go_wp2
    go_ret
    exact ⟨rfl, rfl⟩

set_option maxHeartbeats 1600000 in
theorem right28 (v1 v2 : Value) (p : List ByteArray) (q : List Pr) (w : World) (hp : Ss w v1 p) (hq : Ps w v2 q) :
    Calls Tryz.prog 23 #[.agg #[v1, v2]] w fun e w' => e = .returned (.bool (rightB p q)) ∧ Below w.heap.size w w' := by
  obtain ⟨A, cap, rfl, _, _, hc⟩ := hp
  obtain ⟨A2, cap2, rfl, _, _, hc2⟩ := hq
  have HC := Lib.hid hc
  have HC2 := Lib.hid hc2
  clear hc hc2
  by_cases h1 : p.length ≤ 8
  · by_cases h2 : q.length ≤ 8
    · have d1 : ¬ (8 : Int) < (p.length : Int) := by omega
      have d2 : ¬ (8 : Int) < (q.length : Int) := by omega
      have e0 : rightB p q = (p.all nameB && q.all pairB) := by rw [rightB, decide_eq_true ⟨h1, h2⟩]; rfl
      have E0 := Lib.hid e0
      clear e0
      go_enter Tryz.func23, Tryz.ntmps23
      go_wp2_with fail
      have HK := Lib.hid (blk_new w (.cells #[.slice A p.length cap, .slice A2 q.length cap2] 33 (0, 0)))
      have HB := Lib.hid ((Below.refl w.heap.size w).alloc (Nat.le_refl _) (.cells #[.slice A p.length cap, .slice A2 q.length cap2] 33 (0, 0)))
      generalize w.alloc (.cells #[.slice A p.length cap, .slice A2 q.length cap2] 33) = w5 at *
      obtain ⟨k0, k1, _, _⟩ := blk2 HK.out
      have hsz := HB.out.size
      go_loopw [20] (fun i wr => ∃ (k : Nat), k ≤ p.length ∧ i = .int .i64 k ∧ (p.take k).all nameB = true ∧ wr = w5) (fun i _ => p.length - (intOf i).toNat)
      case atStart => exact ⟨0, Nat.zero_le _, rfl, by simp, rfl⟩
      case round =>
        obtain ⟨k, hk, rfl, hall, hwq⟩ := hrel
        have hwq := hwq.symm
        subst hwq
        have HA := Lib.hid hall
        clear hall
        by_cases hlt : k < p.length
        · obtain ⟨b, o, rfl, hcell⟩ := HC.out k hlt
          have hcell' : w5.cell? ⟨b, o + k, none⟩ = some (.string (p.getD k default)) := by rw [HB.out.cell (World.block_lt_of_cell? _ _ hcell)]; exact hcell
          have c0 : (k : Int) < (p.length : Int) := by omega
          have HL := Lib.hid (all_next nameB p k hlt)
          have HQ := Lib.hid (all_not nameB p k hlt)
          clear hcell
          generalize p.getD k default = x at *
          by_cases hx : nameB x = true
          · go_wp2_with (first | (go_at_call 43; refine (isName47 _ _).mono ?_; rintro e w' ⟨rfl, rfl⟩; rw [hx]))
            go_roundw
            case rel => exact ⟨k + 1, by omega, by go_num, by rw [HL.out, HA.out, hx]; rfl, trivial⟩
            case measure => simp [intOf]; omega
          · have hx : nameB x = false := by simpa using hx
            have e1 : rightB p q = false := by rw [E0.out, HQ.out hx]; rfl
            have E1 := Lib.hid e1
            clear e1
            go_wp2_with (first | (go_at_call 43; refine (isName47 _ _).mono ?_; rintro e w' ⟨rfl, rfl⟩; rw [hx]))
            rw [E1.out]
            go_ret
            exact ⟨rfl, HB.out⟩
        · obtain rfl : k = p.length := by omega
          have ha : p.all nameB = true := by simpa using HA.out
          have e1 : rightB p q = q.all pairB := by rw [E0.out, ha]; rfl
          have E1 := Lib.hid e1
          clear e1 ha
          go_wp2_with fail
          go_loopw [31] (fun i w6 => ∃ (k : Nat), k ≤ q.length ∧ i = .int .i64 k ∧ (q.take k).all pairB = true ∧ Below w5.heap.size w5 w6) (fun i _ => q.length - (intOf i).toNat)
          case atStart => exact ⟨0, Nat.zero_le _, rfl, by simp, Below.refl _ _⟩
          case round =>
            obtain ⟨k, hk, rfl, hall, hB6⟩ := hrel
            have HA := Lib.hid hall
            have H6 := Lib.hid hB6
            clear hall hB6
            by_cases hlt : k < q.length
            · obtain ⟨b, o, rfl, hcell, hcelb⟩ := HC2.out k hlt
              have g1 : wr.cell? ⟨b, o + k * 2, none⟩ = some (.string (q.getD k default).1) := by
                have hl := World.block_lt_of_cell? _ _ hcell
                rw [H6.out.cell (show b < w5.heap.size by have : b < w.heap.size := hl; omega), HB.out.cell hl]; exact hcell
              have g2 : wr.cell? ⟨b, o + k * 2 + 1, none⟩ = some (.string (q.getD k default).2) := by
                have hl := World.block_lt_of_cell? _ _ hcelb
                rw [H6.out.cell (show b < w5.heap.size by have : b < w.heap.size := hl; omega), HB.out.cell hl]; exact hcelb
              have c0 : (k : Int) < (q.length : Int) := by omega
              have HL := Lib.hid (all_next pairB q k hlt)
              have HQ := Lib.hid (all_not pairB q k hlt)
              clear hcell hcelb
              generalize q.getD k default = x at *
              obtain ⟨x, y⟩ := x
              simp only at g1 g2
              have hsz6 := H6.out.size
              by_cases hx : nameB x = true
              · by_cases hy : y.size ≤ 64
                · have d3 : ¬ (64 : Int) < (y.size : Int) := by omega
                  have e2 : pairB (x, y) = true := by rw [pairB, hx, decide_eq_true hy]; rfl
                  have E2 := Lib.hid e2
                  clear e2
                  go_wp2_with (first | (go_at_call 43; refine (isName47 _ _).mono ?_; rintro e w' ⟨rfl, rfl⟩; rw [hx]))
                  go_roundw
                  case rel => exact ⟨k + 1, by omega, by go_num, by rw [HL.out, HA.out, E2.out]; rfl, H6.out.alloc (by omega) _⟩
                  case measure => simp [intOf]; omega
                · have d3 : (64 : Int) < (y.size : Int) := by omega
                  have e2 : rightB p q = false := by rw [E1.out, HQ.out (by rw [pairB, decide_eq_false hy]; simp)]
                  have E2 := Lib.hid e2
                  clear e2
                  go_wp2_with (first | (go_at_call 43; refine (isName47 _ _).mono ?_; rintro e w' ⟨rfl, rfl⟩; rw [hx]))
                  rw [E2.out]
                  go_ret
                  exact ⟨rfl, HB.out.trans ((H6.out.alloc (by omega) _).mono hsz)⟩
              · have hx : nameB x = false := by simpa using hx
                have e2 : rightB p q = false := by rw [E1.out, HQ.out (by rw [pairB, hx]; rfl)]
                have E2 := Lib.hid e2
                clear e2
                go_wp2_with (first | (go_at_call 43; refine (isName47 _ _).mono ?_; rintro e w' ⟨rfl, rfl⟩; rw [hx]))
                rw [E2.out]
                go_ret
                exact ⟨rfl, HB.out.trans ((H6.out.alloc (by omega) _).mono hsz)⟩
            · obtain rfl : k = q.length := by omega
              have ha : q.all pairB = true := by simpa using HA.out
              have e1 : rightB p q = true := by rw [E1.out, ha]
              have E2 := Lib.hid e1
              clear e1 ha
              go_wp2
              rw [E2.out]
              go_ret
              exact ⟨rfl, HB.out.trans (H6.out.mono hsz)⟩
    · have d1 : ¬ (8 : Int) < (p.length : Int) := by omega
      have d2 : (8 : Int) < (q.length : Int) := by omega
      have e0 : rightB p q = false := by rw [rightB, decide_eq_false (fun h => h2 h.2)]; rfl
      have E0 := Lib.hid e0
      clear e0
      go_enter Tryz.func23, Tryz.ntmps23
      go_wp2
      rw [E0.out]
      go_ret
      exact ⟨rfl, (Below.refl _ _).alloc (Nat.le_refl _) _⟩
  · have d1 : (8 : Int) < (p.length : Int) := by omega
    have e0 : rightB p q = false := by rw [rightB, decide_eq_false (fun h => h1 h.1)]; rfl
    have E0 := Lib.hid e0
    clear e0
    go_enter Tryz.func23, Tryz.ntmps23
    go_wp2
    rw [E0.out]
    go_ret
    exact ⟨rfl, (Below.refl _ _).alloc (Nat.le_refl _) _⟩
end Go.Proofs.YthigandmemifoaaGreatDoor

namespace Go.Proofs.YthigandmemifoaaGreatDoor
open Go.RowKit Go.PlainAid
set_option maxRecDepth 100000

theorem Ss.cells {w : World} {A : Option Addr} {n c : Nat} {l : List ByteArray} (h : Ss w (.slice A n c) l) (ad : Addr) (ha : A = some ad) : ∀ j u, (l.flatMap stC)[j]? = some u → w.cell? (ad.add j) = some u := by
  obtain ⟨A', cap, e, _, _, h3⟩ := h
  simp only [Value.slice.injEq] at e
  obtain ⟨rfl, _, rfl⟩ := e
  intro j u hu
  have hj : j < l.length := by
    have := (List.getElem?_eq_some_iff.1 hu).1
    rw [stC_len] at this; omega
  obtain ⟨b, o, e, hc⟩ := h3 j hj
  rw [ha] at e
  cases e
  rw [Addr.add_lit, hc, ← hu, stC_map]
  simp [List.getD, hj]
theorem Ps.cells {w : World} {A : Option Addr} {n c : Nat} {l : List Pr} (h : Ps w (.slice A n c) l) (ad : Addr) (ha : A = some ad) : ∀ j u, (l.flatMap prC)[j]? = some u → w.cell? (ad.add j) = some u := by
  obtain ⟨A', cap, e, _, _, h3⟩ := h
  simp only [Value.slice.injEq] at e
  obtain ⟨rfl, _, rfl⟩ := e
  intro j u hu
  have hj : j < l.length * 2 := by
    have := (List.getElem?_eq_some_iff.1 hu).1
    rw [prC_len] at this; omega
  obtain ⟨i, hi⟩ : ∃ i, j = i * 2 ∨ j = i * 2 + 1 := ⟨j / 2, by omega⟩
  have hil : i < l.length := by omega
  obtain ⟨b, o, e, hc, hd⟩ := h3 i hil
  rw [ha] at e
  cases e
  rcases hi with rfl | rfl
  · rw [Addr.add_lit, hc, ← hu, (prC_at l i hil).1]
  · rw [Addr.add_lit, ← Nat.add_assoc, hd, ← hu, (prC_at l i hil).2]
theorem Ss.len {w : World} {A : Option Addr} {n c : Nat} {l : List ByteArray} (h : Ss w (.slice A n c) l) : l.length = n ∧ n ≤ c ∧ (A = none → c = 0) := by
  obtain ⟨A', cap, e, h1, h2, _⟩ := h
  simp only [Value.slice.injEq] at e
  obtain ⟨rfl, rfl, rfl⟩ := e
  exact ⟨rfl, h1, h2⟩
theorem Ps.len {w : World} {A : Option Addr} {n c : Nat} {l : List Pr} (h : Ps w (.slice A n c) l) : l.length = n ∧ n ≤ c ∧ (A = none → c = 0) := by
  obtain ⟨A', cap, e, h1, h2, _⟩ := h
  simp only [Value.slice.injEq] at e
  obtain ⟨rfl, rfl, rfl⟩ := e
  exact ⟨rfl, h1, h2⟩

theorem wp_appSs {o : Oper} {a : Act} {K : Act → World → Prop} {Q : Exit → Act → World → Prop} (w : World) (s x : Operand)
    (ho : o.op = .call { callee := .builtin .append, args := #[s, x], argTypes := #[30, 30] })
    (B : Nat) (w0 : World) (v : Value) (xs : List ByteArray) (hs : a.eval s = v) (hown : OwnS B w0 v xs w) (hl : xs.length ≤ 1000000000)
    (A : Option Addr) (m c : Nat) (ys : List ByteArray) (hx : a.eval x = .slice A m c) (hss : Ss w (.slice A m c) ys) (hm1 : ys.length ≤ 10)
    (h : ∀ v' w', OwnS B w0 v' (xs ++ ys) w' → w.grownBy w' v.ownBlock → K (a.put o.dst v') w') : Oper.wp Tryz.prog o a w K Q := by
  obtain ⟨hm, hc, hn⟩ := hss.len
  cases A with
  | none =>
    have hc0 := hn rfl
    subst hc0
    obtain rfl : m = 0 := by omega
    obtain rfl : ys = [] := List.eq_nil_of_length_eq_zero hm
    obtain ⟨i0, hi, hz0, hz1, hz2⟩ := info_parts info9
    have hr := run_append_owned_none (P := Tryz.prog) (w := w) B 30 o.type 9 i0 1 Tryz.underlying30 hi v _ _ hown.1
    unfold Oper.wp execOp
    simp only [ho, resolve, invoke, builtin, Sem.run_bind, Sem.run_pure, Result.andThen_ok, List.map_toArray, List.map_cons, List.map_nil, hs, hx, hr]
    exact h v w (by rw [List.append_nil]; exact hown) (World.grownBy.refl _ _)
  | some ad => exact wp_appS w s x ho B w0 v xs hs hown hl ad m c ys hx hm (by omega) (hss.cells ad rfl) fun v' w' h2 h3 _ => h v' w' h2 h3
theorem wpList_appSs {ops : Array Oper} {rest : List Oper} {o : Oper} {a : Act} {Q : Exit → Act → World → Prop} (w : World) (hgd : o.guard = none) (s x : Operand)
    (ho : o.op = .call { callee := .builtin .append, args := #[s, x], argTypes := #[30, 30] })
    (B : Nat) (w0 : World) (v : Value) (xs : List ByteArray) (hs : a.eval s = v) (hown : OwnS B w0 v xs w) (hl : xs.length ≤ 1000000000)
    (A : Option Addr) (m c : Nat) (ys : List ByteArray) (hx : a.eval x = .slice A m c) (hss : Ss w (.slice A m c) ys) (hm1 : ys.length ≤ 10)
    (h : ∀ v' w', OwnS B w0 v' (xs ++ ys) w' → w.grownBy w' v.ownBlock → wpList Tryz.prog ops Q rest (a.put o.dst v') w') : wpList Tryz.prog ops Q (o :: rest) a w :=
  wpList_plain hgd fun _ hK => wp_appSs w s x ho B w0 v xs hs hown hl A m c ys hx hss hm1 fun v' w' h2 h3 => hK _ _ (h v' w' h2 h3)
theorem wp_appPs {o : Oper} {a : Act} {K : Act → World → Prop} {Q : Exit → Act → World → Prop} (w : World) (s x : Operand)
    (ho : o.op = .call { callee := .builtin .append, args := #[s, x], argTypes := #[31, 31] })
    (B : Nat) (w0 : World) (v : Value) (xs : List Pr) (hs : a.eval s = v) (hown : OwnP B w0 v xs w) (hl : xs.length ≤ 1000000000)
    (A : Option Addr) (m c : Nat) (ys : List Pr) (hx : a.eval x = .slice A m c) (hss : Ps w (.slice A m c) ys) (hm1 : ys.length ≤ 10)
    (h : ∀ v' w', OwnP B w0 v' (xs ++ ys) w' → w.grownBy w' v.ownBlock → K (a.put o.dst v') w') : Oper.wp Tryz.prog o a w K Q := by
  obtain ⟨hm, hc, hn⟩ := hss.len
  cases A with
  | none =>
    have hc0 := hn rfl
    subst hc0
    obtain rfl : m = 0 := by omega
    obtain rfl : ys = [] := List.eq_nil_of_length_eq_zero hm
    obtain ⟨i0, hi, hz0, hz1, hz2⟩ := info_parts info61
    have hr := run_append_owned_none (P := Tryz.prog) (w := w) B 31 o.type 61 i0 2 Tryz.underlying31 hi v _ _ hown.1
    unfold Oper.wp execOp
    simp only [ho, resolve, invoke, builtin, Sem.run_bind, Sem.run_pure, Result.andThen_ok, List.map_toArray, List.map_cons, List.map_nil, hs, hx, hr]
    exact h v w (by rw [List.append_nil]; exact hown) (World.grownBy.refl _ _)
  | some ad => exact wp_appP w s x ho B w0 v xs hs hown hl ad m c ys hx hm (by omega) (hss.cells ad rfl) fun v' w' h2 h3 _ => h v' w' h2 h3
theorem wpList_appPs {ops : Array Oper} {rest : List Oper} {o : Oper} {a : Act} {Q : Exit → Act → World → Prop} (w : World) (hgd : o.guard = none) (s x : Operand)
    (ho : o.op = .call { callee := .builtin .append, args := #[s, x], argTypes := #[31, 31] })
    (B : Nat) (w0 : World) (v : Value) (xs : List Pr) (hs : a.eval s = v) (hown : OwnP B w0 v xs w) (hl : xs.length ≤ 1000000000)
    (A : Option Addr) (m c : Nat) (ys : List Pr) (hx : a.eval x = .slice A m c) (hss : Ps w (.slice A m c) ys) (hm1 : ys.length ≤ 10)
    (h : ∀ v' w', OwnP B w0 v' (xs ++ ys) w' → w.grownBy w' v.ownBlock → wpList Tryz.prog ops Q rest (a.put o.dst v') w') : wpList Tryz.prog ops Q (o :: rest) a w :=
  wpList_plain hgd fun _ hK => wp_appPs w s x ho B w0 v xs hs hown hl A m c ys hx hss hm1 fun v' w' h2 h3 => hK _ _ (h v' w' h2 h3)
end Go.Proofs.YthigandmemifoaaGreatDoor

namespace Go.Proofs.YthigandmemifoaaGreatDoor
open Go.RowKit Go.PlainAid
set_option maxRecDepth 100000

theorem bd_wrong {l : List Sg} {ps : List Pr} (hr : rgB l = false) : bdB l ps = false ∧ bdL l ps = [] := by
  rw [bdB, bdL, bdO, if_neg (by rw [hr]; decide)]
  exact ⟨rfl, rfl⟩
theorem bd_no {l : List Sg} {ps : List Pr} (hr : rgB l = true) (h : bdR l ps = none) : bdB l ps = false ∧ bdL l ps = [] := by
  rw [bdB, bdL, bdO, if_pos hr, h]
  exact ⟨rfl, rfl⟩
theorem bd_yes {l : List Sg} {ps : List Pr} {path : List ByteArray} (hr : rgB l = true) (h : bdR l ps = some path) (hb : (rightB path [] && (mtB l path && smB (mtL l path) ps)) = true) : bdB l ps = true ∧ bdL l ps = path := by
  rw [bdB, bdL, bdO, if_pos hr, h]
  simp only [hb]
  exact ⟨rfl, rfl⟩
theorem bd_not {l : List Sg} {ps : List Pr} {path : List ByteArray} (hr : rgB l = true) (h : bdR l ps = some path) (hb : (rightB path [] && (mtB l path && smB (mtL l path) ps)) = false) : bdB l ps = false ∧ bdL l ps = [] := by
  rw [bdB, bdL, bdO, if_pos hr, h]
  simp only [hb]
  exact ⟨rfl, rfl⟩
theorem gv_some {g : Sg} {ps : List Pr} (h : gvB g ps = true) : gvO g ps = some (gvL g ps) := by
  unfold gvB at h
  obtain ⟨n, hn⟩ := Option.isSome_iff_exists.1 h
  unfold gvL
  rw [hn]; rfl
theorem gv_none {g : Sg} {ps : List Pr} (h : gvB g ps = false) : gvO g ps = none := by
  unfold gvB at h
  simpa using h
theorem sp_len (v : ByteArray) : (spL v).length ≤ 9 := by
  unfold spL spO
  have := spN_len v
  split
  · simp
  · split
    · simpa using this
    · simp
theorem gv_len (g : Sg) (ps : List Pr) : (gvL g ps).length ≤ 9 := by
  obtain ⟨g1, g2⟩ := g
  have := sp_len (gtS ps g2)
  rcases gv_cases g1 g2 ps with ⟨_, _, e⟩ | ⟨_, _, _, _, e⟩ | ⟨_, _, _, _, e⟩ | ⟨_, _, _, _, e⟩ | ⟨_, _, _, _, e⟩ <;> rw [e] <;> simp <;> omega
/-- what Build has come to -/
def BdMid (l : List Sg) (ps : List Pr) (k : Nat) (xs : List ByteArray) : Prop :=
  bdR l ps = (bdR (l.drop k) ps).map (xs ++ ·) ∧ xs.length ≤ 9 * k
theorem bmid_next {l : List Sg} {ps : List Pr} {k : Nat} {xs ys : List ByteArray} (h : BdMid l ps k xs) (ht : bdR (l.drop k) ps = (bdR (l.drop (k + 1)) ps).map (ys ++ ·)) (hy : ys.length ≤ 9) : BdMid l ps (k + 1) (xs ++ ys) := by
  obtain ⟨h1, h2⟩ := h
  refine ⟨?_, by rw [List.length_append]; omega⟩
  rw [h1, ht, Option.map_map]
  congr 1
  funext z
  simp

set_option maxHeartbeats 3200000 in
set_option maxRecDepth 100000 in
theorem build9 (v1 v2 : Value) (l : List Sg) (q : List Pr) (w : World) (h1 : Gs w v1 l) (h2 : Ps w v2 q) (hz : q.length ≤ 1000000000) (hs : ∀ p ∈ q, p.2.size ≤ 100000000) :
    Calls Tryz.prog 67 #[v1, v2] w fun e w' => ∃ v, e = .returned (.tuple #[v, .bool (bdB l q)]) ∧ Ss w' v (bdL l q) ∧ Below w.heap.size w w' := by
  by_cases hr : rgB l = true
  · have HG := Lib.hid h1
    have HP := Lib.hid h2
    have hl8 := rg_len hr
    have HNO := Lib.hid (@bd_no l q hr)
    have HYES := Lib.hid (fun path => @bd_yes l q path hr)
    have HNOT := Lib.hid (fun path => @bd_not l q path hr)
    have HZ := Lib.hid hs
    obtain ⟨A, cap, rfl, hcap, _, hc⟩ := h1
    have HC := Lib.hid hc
    obtain ⟨A2, n2, c2, rfl⟩ := h2.shape
    clear hc h2 hs
    go_enter Tryz.func67, Tryz.ntmps67
    go_wp2_with (first | (go_at_call 79; refine (right16 _ _ _ HG.out).mono ?_; rintro e w6 ⟨rfl, h6⟩; rw [hr]; have H6 := Lib.hid h6; clear h6))
    have HE := Lib.hid (empS w6.heap.size w6 w6 (Below.refl _ _) (Nat.le_refl _))
    go_loopw [6, 19] (fun p i wr => ∃ (k : Nat) (xs : List ByteArray), k ≤ l.length ∧ i = .int .i64 k ∧ OwnS w6.heap.size w6 p xs wr ∧ BdMid l q k xs) (fun _ i _ => l.length - (intOf i).toNat)
    case atStart => exact ⟨0, [], Nat.zero_le _, rfl, HE.out, by simp, by simp⟩
    case round =>
      obtain ⟨k, xs, hk, rfl, hown, hmid⟩ := hrel
      have HO := Lib.hid hown
      have HM := Lib.hid hmid
      clear hown hmid
      have HBr := Lib.hid (H6.out.trans (HO.out.2.1.mono H6.out.size))
      by_cases hlt : k < l.length
      · have d0 : (k : Int) < (l.length : Int) := by omega
        obtain ⟨x, o, rfl, hcell, hcelb⟩ := HC.out k hlt
        have g1 : wr.cell? ⟨x, o + k * 2, none⟩ = some (.int .i64 (l.getD k default).1) := by rw [HBr.out.cell (World.block_lt_of_cell? _ _ hcell)]; exact hcell
        have g3 : wr.cell? ⟨x, o + k * 2 + 1, none⟩ = some (.string (l.getD k default).2) := by rw [HBr.out.cell (World.block_lt_of_cell? _ _ hcelb)]; exact hcelb
        have HN := Lib.hid (@bd_none l k q hlt)
        have HT := Lib.hid (fun x => @bd_step l k q hlt x)
        clear hcell hcelb
        generalize l.getD k default = s at *
        obtain ⟨s1, s2⟩ := s
        simp only at g1 g3
        have HY := Lib.hid ((Below.refl wr.heap.size wr).alloc (Nat.le_refl _) (.cells #[.int .i64 s1, .string s2] 28 (0, 0)))
        have HO9 := Lib.hid (HO.out.alloc (.cells #[.int .i64 s1, .string s2] 28 (0, 0)))
        have HP9 := Lib.hid ((HP.out.call HBr.out).call HY.out)
        have HB9 := Lib.hid (HBr.out.alloc HBr.out.size (.cells #[.int .i64 s1, .string s2] 28 (0, 0)))
        go_wp2_with fail
        generalize wr.alloc (.cells #[.int .i64 s1, .string s2] 28) = w9 at *
        by_cases ht : gvB (s1, s2) q = true
        · have HT1 := Lib.hid (HT.out _ (gv_some ht))
          have hy9 := gv_len (s1, s2) q
          obtain ⟨ys, hys⟩ : ∃ ys, gvL (s1, s2) q = ys := ⟨_, rfl⟩
          rw [hys] at HT1 hy9
          refine (give27 _ _ _ q _ HP9.out hz HZ.out).mono ?_
          rintro e w1 ⟨v3, rfl, h1, h2⟩
          rw [ht]
          rw [hys] at h1
          have HSy := Lib.hid h1
          have HO1 := Lib.hid (HO9.out.call h2)
          obtain ⟨A3, n3, c3, rfl⟩ := h1.shape
          have eb : Hid (xs.length ≤ 1000000000) := by have := HM.out.2; show _ ≤ _; omega
          clear h1 h2
          go_wp2_with (first | (at_builtin; refine wpList_appSs _ rfl (.tmp 31) (.tmp 32) rfl w6.heap.size w6 _ xs rfl HO1.out ?b1 A3 n3 c3 ys rfl HSy.out ?b2 ?_))
          case b1 => exact eb.out
          case b2 => omega
          intro v4 w4 h4 _
          have H4 := Lib.hid h4
          clear h4
          go_wp2_with fail
          go_roundw
          case rel => exact ⟨k + 1, xs ++ ys, by omega, by go_num, H4.out, bmid_next HM.out HT1.out hy9⟩
          case measure => simp [intOf]; omega
        · have ht : gvB (s1, s2) q = false := by simpa using ht
          have HE2 := Lib.hid (HNO.out (by rw [HM.out.1, HN.out (gv_none ht)]; rfl))
          refine (give27 _ _ _ q _ HP9.out hz HZ.out).mono ?_
          rintro e w1 ⟨v3, rfl, h1, h2⟩
          rw [ht]
          obtain ⟨A3, n3, c3, rfl⟩ := h1.shape
          have HB1 := Lib.hid (HB9.out.trans (h2.mono HB9.out.size))
          clear h1 h2
          go_wp2
          rw [HE2.out.1, HE2.out.2]
          go_ret2
          exact ⟨_, rfl, ss_nil _, HB1.out⟩
      · obtain rfl : k = l.length := by omega
        have hR : bdR l q = some xs := by
          rw [HM.out.1, List.drop_length, bdR]
          simp
        have HY1 := Lib.hid (HYES.out xs hR)
        have HN1 := Lib.hid (HNOT.out xs hR)
        have HSx := Lib.hid HO.out.ss
        obtain ⟨A8, n8, c8, hv8⟩ := HO.out.ss.shape
        subst hv8
        clear hR
        by_cases hri : rightB xs [] = true
        · have hx8 : xs.length ≤ 8 := by
            rw [rightB, Bool.and_eq_true] at hri
            exact (of_decide_eq_true hri.1).1
          have HXZ : Hid (∀ s ∈ xs, s.size ≤ 100000000) := by
            intro s hs
            rw [rightB, Bool.and_eq_true, Bool.and_eq_true, List.all_eq_true] at hri
            have := of_decide_eq_true (hri.2.1 s hs)
            omega
          go_wp2_with (first | (go_at_call 23; refine (right28 _ _ _ _ _ HSx.out (ps_nil _)).mono ?_; rintro e w2 ⟨rfl, h2⟩; rw [hri]; have H2 := Lib.hid h2; clear h2))
          refine (match8 _ _ l xs _ ((HG.out.call HBr.out).call H2.out) (HSx.out.call H2.out) HXZ.out (by omega)).mono ?_
          rintro e w3 ⟨v3, rfl, h3, h4⟩
          have H3 := Lib.hid h3
          have H4 := Lib.hid h4
          obtain ⟨A3, n3, c3, rfl⟩ := h3.shape
          clear h3 h4
          have HB3 := Lib.hid ((HBr.out.trans (H2.out.mono HBr.out.size)).trans (H4.out.mono (Nat.le_trans HBr.out.size H2.out.size)))
          by_cases hmb : mtB l xs = true
          · rw [hmb]
            have HP3 := Lib.hid (HP.out.call HB3.out)
            go_wp2_with fail
            refine (sameSet29 _ _ (mtL l xs) q _ H3.out HP3.out hz).mono ?_
            rintro e w5 ⟨rfl, h5⟩
            have HB5 := Lib.hid (HB3.out.trans (h5.mono HB3.out.size))
            have HS5 := Lib.hid (((HSx.out.call H2.out).call H4.out).call h5)
            clear h5
            by_cases hsm : smB (mtL l xs) q = true
            · rw [hsm]
              have HE2 := Lib.hid (HY1.out (by rw [hri, hmb, hsm]; rfl))
              go_wp2
              rw [HE2.out.1, HE2.out.2]
              go_ret2
              exact ⟨_, rfl, HS5.out, HB5.out⟩
            · have hsm : smB (mtL l xs) q = false := by simpa using hsm
              rw [hsm]
              have HE2 := Lib.hid (HN1.out (by rw [hri, hmb, hsm]; rfl))
              go_wp2
              rw [HE2.out.1, HE2.out.2]
              go_ret2
              exact ⟨_, rfl, ss_nil _, HB5.out⟩
          · have hmb : mtB l xs = false := by simpa using hmb
            rw [hmb]
            have HE2 := Lib.hid (HN1.out (by rw [hri, hmb]; rfl))
            go_wp2
            rw [HE2.out.1, HE2.out.2]
            go_ret2
            exact ⟨_, rfl, ss_nil _, HB3.out⟩
        · have hri : rightB xs [] = false := by simpa using hri
          have HE2 := Lib.hid (HN1.out (by rw [hri]; rfl))
          go_wp2_with (first | (go_at_call 23; refine (right28 _ _ _ _ _ HSx.out (ps_nil _)).mono ?_; rintro e w2 ⟨rfl, h2⟩; rw [hri]; have H2 := Lib.hid h2; clear h2))
          rw [HE2.out.1, HE2.out.2]
          go_ret2
          exact ⟨_, rfl, ss_nil _, HBr.out.trans (H2.out.mono HBr.out.size)⟩
  · have hr : rgB l = false := by simpa using hr
    have HG := Lib.hid h1
    have HE := Lib.hid (bd_wrong (ps := q) hr)
    obtain ⟨A, n, c, rfl⟩ := h1.shape
    obtain ⟨A2, n2, c2, rfl⟩ := h2.shape
    clear h1 h2
    go_enter Tryz.func67, Tryz.ntmps67
    go_wp2_with (first | (go_at_call 79; refine (right16 _ _ _ HG.out).mono ?_; rintro e w6 ⟨rfl, h6⟩; rw [hr]; have H6 := Lib.hid h6; clear h6))
    rw [HE.out.1, HE.out.2]
    go_ret2
    exact ⟨_, rfl, ss_nil _, H6.out⟩
end Go.Proofs.YthigandmemifoaaGreatDoor
