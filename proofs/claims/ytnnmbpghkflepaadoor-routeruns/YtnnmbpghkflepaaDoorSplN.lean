/-
  strings.Index, SplitN at a mark of one byte.
-/
import Derived.Test.YtnnmbpghkflepaaDoorRgt
import Derived.Test.YtnnmbpghkflepaaDoorShelfI
import Derived.Deep.OwnRows
namespace Go.Proofs.YtnnmbpghkflepaaDoor
open Go.RowKit Go.PlainAid
set_option maxRecDepth 100000

/-- where the first mark stands -/
def ix (s : ByteArray) : Int := Lib.indexByte s.data.toList 47

theorem ix_one : ix ⟨#[47]⟩ = 0 := by decide
theorem u8_47 (b : UInt8) : b = 47 ↔ ((b.toNat : Int) = 47) := by
  constructor
  · rintro rfl; rfl
  · intro h
    apply UInt8.toNat_inj.1
    have : (47 : UInt8).toNat = 47 := rfl
    omega
theorem ix_cases (s : ByteArray) : (ix s = -1 ∧ ∀ x ∈ bs s, x ≠ 47) ∨ ∃ j : Nat, ix s = (j : Int) ∧ j < s.size ∧ bs s = (bs s).take j ++ 47 :: (bs s).drop (j + 1) ∧ ∀ x ∈ (bs s).take j, x ≠ 47 := by
  have hge := Lib.indexByte_ge s.data.toList 47
  by_cases h : ix s = -1
  · refine Or.inl ⟨h, fun x hx => ?_⟩
    simp only [bs, List.mem_map] at hx
    obtain ⟨b, hb, rfl⟩ := hx
    obtain ⟨k, hk⟩ := List.getElem?_of_mem hb
    intro e
    rw [(u8_47 b).2 e] at hk
    exact Lib.indexByte_none h k hk
  · obtain ⟨j, hj⟩ := Int.eq_ofNat_of_zero_le (a := ix s) (by unfold ix at *; omega)
    obtain ⟨h1, h2⟩ := Lib.indexByte_some (o := j) hj
    have hlt : j < s.data.toList.length := (List.getElem?_eq_some_iff.1 h1).1
    have hsz : j < s.size := by rw [Lib.size_eq]; exact hlt
    refine Or.inr ⟨j, hj, hsz, ?_, ?_⟩
    · have hl : j < (bs s).length := by rw [bs_len]; exact hsz
      conv => lhs; rw [← List.take_append_drop j (bs s)]
      rw [List.drop_eq_getElem_cons hl]
      congr 2
      simp only [bs, List.getElem_map]
      have := (List.getElem?_eq_some_iff.1 h1).2
      rw [this]; rfl
    · intro x hx
      rw [List.mem_take_iff_getElem] at hx
      obtain ⟨i, hi, rfl⟩ := hx
      have hi2 : i < s.data.toList.length := by simp [bs] at hi; simp; omega
      intro e
      simp only [bs, List.getElem_map] at e
      have := (u8_47 _).2 e
      exact h2 i (by omega) (by rw [List.getElem?_eq_getElem hi2, this])

theorem ix47 (s : ByteArray) : Lib.indexByte s.data.toList 47 = ix s := rfl

set_option maxHeartbeats 800000 in
set_option maxRecDepth 100000 in
theorem index66 (s : ByteArray) (w : World) :
    Calls Tryd.prog 91 #[.string s, .string ⟨#[47]⟩] w fun e w' => e = .returned (.int .i64 (ix s)) ∧ w' = w := by
  by_cases hs : s = ⟨#[47]⟩
  · subst hs
    rw [ix_one]
    go_enter Tryd.func91, Tryd.ntmps91
    go_wp2
    go_ret
    exact ⟨rfl, rfl⟩
  · have q : (([47] : List UInt8) == s.toList) = false := by
      have := bs_eq ⟨#[47]⟩ s
      rw [decide_eq_false (fun h => hs h.symm), Lib.toList_data] at this
      exact this
    go_enter Tryd.func91, Tryd.ntmps91
    go_wp2_with (go_at_call 95; refine (Tryd.stringslite_IndexByte _ _ _).mono ?_; rintro e w' ⟨rfl, rfl⟩)
    go_ret
    exact ⟨rfl, rfl⟩
set_option maxHeartbeats 800000 in
theorem index56 (s : ByteArray) (w : World) :
    Calls Tryd.prog 83 #[.string s, .string ⟨#[47]⟩] w fun e w' => e = .returned (.int .i64 (ix s)) ∧ w' = w := by
  go_enter Tryd.func83, Tryd.ntmps83
  go_wp2_with (go_at_call 91; refine (index66 _ _).mono ?_; rintro e w' ⟨rfl, rfl⟩)
  go_ret
  exact ⟨rfl, rfl⟩

/-- the block of pieces: the first i of them are P -/
def Pcs (w : World) (b N : Nat) (P : List ByteArray) : Prop :=
  ∃ cs : Array Value, w.heap[b]? = some (.cells cs 9 (0, 0)) ∧ cs.size = N ∧ P.length ≤ N ∧ ∀ j, j < P.length → cs[j]? = some (.string (P.getD j default))
theorem Pcs.put {w : World} {b N : Nat} {P : List ByteArray} (h : Pcs w b N P) (hi : P.length < N) (x : ByteArray) : Pcs (w.setCell ⟨b, P.length, none⟩ (.string x)) b N (P ++ [x]) := by
  obtain ⟨cs, h1, h2, h3, h4⟩ := h
  refine ⟨cs.setIfInBounds P.length (.string x), blk_setCell h1 _ _, by simp [h2], by simp; omega, fun j hj => ?_⟩
  simp at hj
  by_cases e : j = P.length
  · subst e
    simp [List.getD, h2, hi]
  · have hj2 : j < P.length := by omega
    rw [Array.getElem?_setIfInBounds_ne (Ne.symm e), h4 j hj2]
    simp [List.getD, List.getElem?_append_left hj2]
theorem Pcs.cell {w : World} {b N : Nat} {P : List ByteArray} (h : Pcs w b N P) (i : Nat) (hi : i < N) : (∃ u, w.cell? ⟨b, i, none⟩ = some u) ∧ w.frozen? ⟨b, i, none⟩ = false := by
  obtain ⟨cs, h1, h2, h3, h4⟩ := h
  exact ⟨⟨cs[i]'(by omega), by rw [blk_cell h1]; simp [h2, hi]⟩, blk_frozen h1 i⟩
theorem Pcs.ss {w : World} {b N : Nat} {P : List ByteArray} (h : Pcs w b N P) (n : Nat) (hn : n = P.length) : Ss w (.slice (some ⟨b, 0, none⟩) n N) P := by
  subst hn
  obtain ⟨cs, h1, h2, h3, h4⟩ := h
  refine ⟨_, _, rfl, h3, (fun h => by cases h), fun i hi => ⟨b, 0, rfl, ?_⟩⟩
  rw [blk_cell h1, Nat.zero_add]
  exact h4 i hi

theorem extract_all (s : ByteArray) : s.extract 0 s.size = s := by
  apply bs_inj
  rw [bs_extract]
  simp [List.take_of_length_le, bs_len]

theorem made9 (N : Nat) (b : Nat) (w : World) (h : w.heap[b]? = some (.cells (madeCells #[.string ⟨#[]⟩] N) 9 (0, 0))) : Pcs w b N [] := by
  refine ⟨_, h, ?_, by simp, fun j hj => by simp at hj⟩
  simp [madeCells]

set_option maxHeartbeats 3200000 in
set_option maxRecDepth 100000 in
theorem gen42 (s : ByteArray) (w : World) (hs : s.size ≤ 100000000) :
    Calls Tryd.prog 69 #[.string s, .string ⟨#[47]⟩, .int .i64 0, .int .i64 9] w fun e w' => ∃ v, e = .returned v ∧ Ss w' v (spN 47 8 s) ∧ Below w.heap.size w w' := by
  obtain ⟨M, hM⟩ : ∃ M : Nat, M = min 8 s.size := ⟨_, rfl⟩
  have hmin : min (9 : Int) ((s.size : Int) + 1) = (M : Int) + 1 := by omega
  have hM8 : M ≤ 8 := by omega
  have hMs : M ≤ s.size := by omega
  have ES : Hid (spN 47 8 s = (splNL 47 M (bs s)).map st) := by
    show _ = _
    rw [spN, ← splNL_min, bs_len, hM]
  clear hM
  have hN : Hid (((M : Int) + 1) = ((M + 1 : Nat) : Int)) := by show _ = _; omega
  obtain ⟨i0, hi, hz0, hz1, hz2⟩ := info_parts info9
  go_enter Tryd.func69, Tryd.ntmps69
  go_wp2_with (at_make; refine wpList_make_row _ rfl _ _ 27 rfl 9 i0 (.string ⟨#[]⟩) Tryd.underlying27 hi hz0 hz1 rfl .i64 .i64 (M + 1) (congrArg (Value.int .i64) hN.out) (congrArg (Value.int .i64) hN.out) ?b1 ?b2 ?_)
  case b1 => rw [hz2]; omega
  case b2 => omega
  have HP := Lib.hid (made9 (M + 1) w.heap.size _ (blk_new w (.cells (madeCells #[.string ⟨#[]⟩] (M + 1)) 9 (0, 0))))
  have HB := Lib.hid ((Below.refl w.heap.size w).alloc (Nat.le_refl _) (.cells (madeCells #[.string ⟨#[]⟩] (M + 1)) 9 (0, 0)))
  generalize w.alloc (.cells (madeCells #[.string ⟨#[]⟩] (M + 1)) 9) = w1 at *
  go_wp2_with fail
  have hsz := HB.out.size
  go_loopw [0, 10] (fun c i wr => ∃ (P : List ByteArray) (cur : ByteArray), P.length ≤ M ∧ c = .string cur ∧ i = .int .i64 P.length ∧ cur.size ≤ s.size ∧ Pcs wr w.heap.size (M + 1) P ∧ (splNL 47 M (bs s)).map st = P ++ (splNL 47 (M - P.length) (bs cur)).map st ∧ Below w.heap.size w wr) (fun _ i _ => M - (intOf i).toNat)
  case atStart => exact ⟨[], s, by simp, rfl, rfl, Nat.le_refl _, HP.out, by simp, HB.out⟩
  case round =>
    obtain ⟨P, cur, hP, rfl, rfl, hcs, hpc, hsp, hbw⟩ := hrel
    have HPC := Lib.hid hpc
    have HSP := Lib.hid hsp
    have HW := Lib.hid hbw
    obtain ⟨⟨u, hu⟩, hfz⟩ := hpc.cell P.length (by omega)
    clear hpc hsp hbw
    have hc9 : cur.size ≤ 100000000 := by omega
    by_cases hlt : P.length < M
    · have c0 : (P.length : Int) < (M : Int) := by omega
      have c1 : (P.length : Int) < (M : Int) + 1 := by omega
      rcases ix_cases cur with ⟨h1, h2⟩ | ⟨j, h1, hj, h2, h3⟩
      · have E1 : Hid (spN 47 8 s = P ++ [cur]) := by
          show _ = _
          rw [ES.out, HSP.out, splNL_none 47 _ _ h2]
          simp [st_bs]
        have HP2 := Lib.hid (HPC.out.put (by omega) cur)
        have HW2 := Lib.hid (HW.out.setCell (p := ⟨w.heap.size, P.length, none⟩) (by exact Nat.le_refl _) (.string cur))
        have c2 : (P.length : Int) + 1 ≤ (M : Int) + 1 := by omega
        go_wp2_with (go_at_call 83; refine (index56 _ _).mono ?_; rintro e w' ⟨rfl, rfl⟩; rw [h1])
        rw [E1.out]
        go_ret
        exact ⟨_, rfl, HP2.out.ss _ (by simp), HW2.out⟩
      · have HSP1 : Hid ((splNL 47 M (bs s)).map st = (P ++ [cur.extract 0 j]) ++ (splNL 47 (M - (P ++ [cur.extract 0 j]).length) (bs (cur.extract (j + 1) cur.size))).map st) := by
          show _ = _
          rw [HSP.out]
          obtain ⟨q, hq⟩ : ∃ q, M - P.length = q + 1 := ⟨M - P.length - 1, by omega⟩
          have hq2 : M - (P ++ [cur.extract 0 j]).length = q := by simp; omega
          rw [hq, hq2, h2, splNL_mark 47 q _ _ h3, bs_tail, List.map_cons, List.append_assoc, List.singleton_append]
          congr 2
          have : (bs cur).take j = bs (cur.extract 0 j) := by rw [bs_extract]; simp
          rw [this, st_bs]
        have HP2 := Lib.hid (HPC.out.put (by omega) (cur.extract 0 j))
        have HW2 := Lib.hid (HW.out.setCell (p := ⟨w.heap.size, P.length, none⟩) (by exact Nat.le_refl _) (.string (cur.extract 0 j)))
        have c2 : ¬ (j : Int) < 0 := by omega
        have c3 : (j : Int) ≤ (cur.size : Int) := by omega
        have c4 : (j : Int) + 1 ≤ (cur.size : Int) := by omega
        have hts : Hid ((cur.extract (j + 1) cur.size).size ≤ s.size) := by show _ ≤ _; rw [← bs_len, bs_tail, List.length_drop, bs_len]; omega
        go_wp2_with (go_at_call 83; refine (index56 _ _).mono ?_; rintro e w' ⟨rfl, rfl⟩; rw [h1])
        go_roundw
        case rel => exact ⟨P ++ [cur.extract 0 j], cur.extract (j + 1) cur.size, by simp; omega, rfl, by simp, hts.out, HP2.out, HSP1.out, HW2.out⟩
        case measure => simp [intOf]; omega
    · obtain hPM : P.length = M := by omega
      have c0 : ¬ (P.length : Int) < (M : Int) := by omega
      have c1 : (P.length : Int) < (M : Int) + 1 := by omega
      have E1 : Hid (spN 47 8 s = P ++ [cur]) := by
        show _ = _
        rw [ES.out, HSP.out, hPM, Nat.sub_self, splNL]
        simp [st_bs]
      have HP2 := Lib.hid (HPC.out.put (by omega) cur)
      have HW2 := Lib.hid (HW.out.setCell (p := ⟨w.heap.size, P.length, none⟩) (by exact Nat.le_refl _) (.string cur))
      have c2 : (P.length : Int) + 1 ≤ (M : Int) + 1 := by omega
      clear hPM
      go_wp2
      rw [E1.out]
      go_ret
      exact ⟨_, rfl, HP2.out.ss _ (by simp), HW2.out⟩
set_option maxHeartbeats 800000 in
theorem splitN23 (s : ByteArray) (w : World) (hs : s.size ≤ 100000000) :
    Calls Tryd.prog 52 #[.string s, .string ⟨#[47]⟩, .int .i64 9] w fun e w' => ∃ v, e = .returned v ∧ Ss w' v (spN 47 8 s) ∧ Below w.heap.size w w' := by
  go_enter Tryd.func52, Tryd.ntmps52
  go_wp2_with fail
  refine (gen42 _ _ hs).mono ?_
  rintro e w1 ⟨v, rfl, h1, h2⟩
  have H1 := Lib.hid h1
  have H2 := Lib.hid h2
  obtain ⟨A, n, c, rfl⟩ := h1.shape
  clear h1 h2
  go_wp2
  go_ret
  exact ⟨_, rfl, H1.out, H2.out⟩
end Go.Proofs.YtnnmbpghkflepaaDoor
