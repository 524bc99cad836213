/-
  RuleFlags, walked.
-/
import Derived.Test.YtfmjlgplcepomaaRuns
namespace Go.Proofs.Ytfmjlgplcepomaa
open Go.RowKit Go.PlainAid
set_option maxRecDepth 100000

theorem range_self (L : List Bool) : [] ++ (List.range L.length).map (fun i => L.getD i false) = L := by
  rw [List.nil_append]
  apply List.ext_getElem?
  intro i
  by_cases h : i < L.length
  · simp [List.getD, h]
  · simp [List.getElem?_eq_none (show L.length ≤ i by omega), List.getElem?_eq_none (show (List.range L.length).length ≤ i by simpa using h)]
theorem stB_none (n : Nat) (i : Int) : stB n (fun _ => false) i = false := by simp [stB]
theorem stB_set {L : List Bool} {k : Nat} {y : Bool} {i : Int} (h : (k : Int) ≠ i) : stB L.length (fun j => (L.set k y).getD j false) i = stB L.length (fun j => L.getD j false) i := by
  by_cases h0 : 0 ≤ i
  · obtain ⟨j, rfl⟩ : ∃ j : Nat, i = (j : Int) := ⟨i.toNat, by omega⟩
    have : k ≠ j := fun e => h (by rw [e])
    simp [stB, List.getD, this]
  · rw [stB_neg h0, stB_neg h0]
theorem stB_self {g : Nat → Bool} (k : Nat) : stB k g (k : Int) = false := stB_big (by omega)
/-- what is sent elsewhere, or told nothing -/
theorem say_two (k : Int) (s : Bool) (t : ByteArray) : sayI k s = 2 ∨ (sayI k s ≠ 2 ∧ toT k s t = ⟨#[]⟩) := by
  rcases kinds k with rfl | rfl | rfl | rfl | rfl | ⟨k0, k1, k2, k3, k4⟩
  · right; exact ⟨by cases s <;> decide, rfl⟩
  · right; exact ⟨by cases s <;> decide, rfl⟩
  · right; cases s <;> exact ⟨by decide, rfl⟩
  · left; rfl
  · cases s
    · left; rfl
    · right; exact ⟨by decide, rfl⟩
  · right; simp [sayI, toT, k0, k2, k3, k4]

@[go_sem] theorem mk9 (w : World) : (Instr.makeSlice 28 (.int .i64 9) (.int .i64 9)).run Try.prog w = .ok (.slice (some ⟨w.heap.size, 0, none⟩) 9 9) (w.alloc (.cells #[.bool false, .bool false, .bool false, .bool false, .bool false, .bool false, .bool false, .bool false, .bool false] 4 (0, 0))) := by kernel_rfl
theorem bs9 {w : World} {b : Nat} (h : w.heap[b]? = some (.cells #[.bool false, .bool false, .bool false, .bool false, .bool false, .bool false, .bool false, .bool false, .bool false] 4 (0, 0))) : Bs w (.slice (some ⟨b, 0, none⟩) 9 9) 9 (fun _ => false) := by
  refine ⟨_, _, rfl, Nat.le_refl _, (fun h => by cases h), fun i hi => ⟨b, 0, rfl, ?_⟩⟩
  rw [blk_cell h]
  rcases (show i = 0 ∨ i = 1 ∨ i = 2 ∨ i = 3 ∨ i = 4 ∨ i = 5 ∨ i = 6 ∨ i = 7 ∨ i = 8 by omega) with rfl | rfl | rfl | rfl | rfl | rfl | rfl | rfl | rfl <;> rfl

set_option maxHeartbeats 12800000 in
theorem ruleFlags6 (r : Rl) (v : Value) (n : Nat) (g : Nat → Bool) (at' : Int) (w : World) (h : Bs w v n g) :
    Calls Try.prog 6 #[.agg #[.int .i64 r.k, .int .i64 r.f, .string r.t], v, .int .i64 at'] w fun e w' => e = .returned (.bool true) ∧ Below w.heap.size w w' := by
  obtain ⟨k, f, t⟩ := r
  dsimp only
  have HB := Lib.hid ((Below.refl w.heap.size w).alloc (Nat.le_refl _) (.cells #[.int .i64 k, .int .i64 f, .string t] 23 (0, 0)))
  have X0 := Lib.hid (blk_new w (.cells #[.int .i64 k, .int .i64 f, .string t] 23 (0, 0)))
  have HS := Lib.hid (h.call HB.out)
  obtain ⟨A, c, rfl⟩ := h.shape
  have hcap := h.cap
  clear h
  go_enter Try.func6, Try.ntmps6
  go_upto_region 1 with fail
  generalize w.alloc (.cells #[.int .i64 k, .int .i64 f, .string t] 23 (0, 0)) = W at *
  have E1 := Lib.hid (empB W.heap.size W W (Below.refl _ _) (Nat.le_refl _))
  have hm1 : (if (9 : Int) < (n : Int) then 9 else (n : Int)).toNat ≤ n := by split <;> omega
  have hm2 : (if (9 : Int) < (n : Int) then 9 else (n : Int)).toNat ≤ 10 := by split <;> omega
  have hm3 : 0 ≤ (if (9 : Int) < (n : Int) then 9 else (n : Int)) := by split <;> omega
  have hm4 : (if (9 : Int) < (n : Int) then 9 else (n : Int)) ≤ (c : Int) := by split <;> omega
  have HS1 := Lib.hid ((HS.out.call ((Below.refl _ W).alloc (Nat.le_refl _) (.cells #[] 4 (0, 0)))).take _ hm1)
  have HM2 := Lib.hid hm2
  clear hm1 hm2
  go_upto_region 2 with (first | (at_builtin; refine wpList_catB (w := W.alloc (.cells #[] 4 (0, 0))) rfl (.tmp 20) (.tmp 25) rfl W.heap.size W _ [] rfl E1.out (by simp) _ _ g rfl HM2.out HS1.out ?_; intro v1 w1 h1 hg1; rw [List.nil_append] at h1; have O1 := Lib.hid h1; clear hg1))
  have hL10 : ((List.range (if (9 : Int) < (n : Int) then 9 else (n : Int)).toNat).map g).length ≤ 10 := by simpa using HM2.out
  generalize (List.range (if (9 : Int) < (n : Int) then 9 else (n : Int)).toNat).map g = L at *
  clear E1 HS1 hm3 hm4 hcap HM2
  generalize (if (9 : Int) < (n : Int) then 9 else (n : Int)) = M at *
  obtain ⟨A1, c1, e1⟩ := O1.out.bs.shape
  subst e1
  have X1 := Lib.hid (blk_call X0.out O1.out.2.1)
  have HB1 := Lib.hid (HB.out.trans (O1.out.2.1.mono HB.out.size))
  have HS1 := Lib.hid O1.out.bs
  have z0 : w1.cell? ⟨w.heap.size, 0, none⟩ = some (.int .i64 k) := blk_cell X1.out 0
  have z1 : w1.cell? ⟨w.heap.size, 1, none⟩ = some (.int .i64 f) := blk_cell X1.out 1
  have z2 : w1.cell? ⟨w.heap.size, 2, none⟩ = some (.string t) := blk_cell X1.out 2
  have HA : Hid (Calls Try.prog 7 #[.agg #[.int .i64 k, .int .i64 f, .string t], .slice A1 L.length c1] w1 (AskPost ⟨k, f, t⟩ L.length (fun i => L.getD i false) w1)) := ask7 ⟨k, f, t⟩ _ _ _ w1 HS1.out
  rw [AskPost_eq] at HA
  dsimp only at HA
  obtain ⟨a, ha⟩ : ∃ a, sayI k (stB L.length (fun i => L.getD i false) f) = a := ⟨_, rfl⟩
  obtain ⟨x, hx⟩ : ∃ x, toT k (stB L.length (fun i => L.getD i false) f) t = x := ⟨_, rfl⟩
  have HAX : Hid (a = 2 ∨ (a ≠ 2 ∧ x = ⟨#[]⟩)) := (by rw [← ha, ← hx]; exact say_two _ _ _)
  rw [ha, hx] at HA
  have Ha := Lib.hid ha
  have Hx := Lib.hid hx
  clear ha hx HS HB X0
  go_upto_region 3 with (first | (go_at_call 7; refine HA.out.mono ?_; rintro e w2 ⟨rfl, hb2⟩; have HB2 := Lib.hid (HB1.out.trans (hb2.mono HB1.out.size)); have X2 := Lib.hid (blk_call X1.out hb2); have HS2 := Lib.hid (HS1.out.call hb2); clear hb2))
  clear HA z0 z1 z2 O1 HS1 X1 HB1
  have E2 := Lib.hid (empB w2.heap.size w2 w2 (Below.refl _ _) (Nat.le_refl _))
  have HS2a := Lib.hid (HS2.out.call ((Below.refl _ w2).alloc (Nat.le_refl _) (.cells #[] 4 (0, 0))))
  go_upto_region 4 with (first | (at_builtin; refine wpList_catB (w := w2.alloc (.cells #[] 4 (0, 0))) rfl (.tmp 33) (.tmp 34) rfl w2.heap.size w2 _ [] rfl E2.out (by simp) _ L.length (fun i => L.getD i false) rfl (by omega) HS2a.out ?_; intro v3 w3 h3 hg3; rw [range_self] at h3; have O3 := Lib.hid h3; clear hg3))
  clear E2 HS2a
  obtain ⟨A3, c3, e3⟩ := O3.out.bs.shape
  subst e3
  go_upto_if 38 with fail
  have GX : Hid (w.heap.size < w2.heap.size) := blk_lt X2.out
  go_cut [7, 10] (fun s7 s10 wz => s7 = .slice A1 L.length c1 ∧ s10 = .slice A3 L.length c3 ∧ Hid (∃ lt : List Bool, lt.length = L.length ∧ stB L.length (fun i => lt.getD i false) f = stB L.length (fun i => L.getD i false) f ∧ OwnB w2.heap.size w2 (.slice A3 L.length c3) lt wz))
  case first =>
    have X3 := Lib.hid (blk_call X2.out O3.out.2.1)
    by_cases hL0 : L.length = 0
    · have d0 : ¬ 0 < L.length := by omega
      go_wp2_with fail
      go_meet
      exact ⟨by rw [hL0], by rw [hL0], L, rfl, rfl, O3.out⟩
    · obtain ⟨m, hm⟩ : ∃ m, L.length = m + 1 := ⟨L.length - 1, by omega⟩
      have d0 : 0 < L.length := by omega
      have eL : ((L.length : Nat) : Int) - 1 = (m : Int) := by omega
      obtain ⟨g3, cap3, e3, hg3, hcell, hfz⟩ := O3.out.box d0
      cases e3
      have HC := Lib.hid hcell
      have HF := Lib.hid hfz
      have HM := Lib.hid hm
      clear hcell hfz hm hL0
      go_upto_region 6 with (first | (go_at_call 11; refine (within11 _ m _ (by have := HM.out; omega)).mono ?_; rintro e w' ⟨i, him, rfl, hw⟩; rw [hw]; clear hw))
      have y1 : w3.cell? ⟨w.heap.size, 1, none⟩ = some (.int .i64 f) := blk_cell X3.out 1
      by_cases hif : (i : Int) = f
      · have d1 : ((i : Int) == f) = true := by simpa using hif
        have HI := Lib.hid hif
        clear hif
        go_wp2_with fail
        go_meet
        exact ⟨by first | rfl | rw [HM.out], by first | rfl | rw [HM.out], L, rfl, rfl, O3.out⟩
      · have d1 : ((i : Int) == f) = false := by simpa using hif
        have HI := Lib.hid hif
        clear hif
        have x0 := HC.out i (by have := HM.out; omega)
        have x1 := HF.out i
        have di : (i : Int) < (L.length : Int) := by have := HM.out; omega
        go_wp2_with fail
        go_meet
        exact ⟨by first | rfl | rw [HM.out], by first | rfl | rw [HM.out], L.set i (!L.getD i false), by simp, stB_set HI.out, O3.out.set i _⟩
  case rest =>
    obtain ⟨rfl, rfl, hcut⟩ := hcut
    obtain ⟨lt, hlt, hst, hO⟩ := hcut.out
    have HB4 := Lib.hid (HB2.out.trans (hO.2.1.mono HB2.out.size))
    have X4 := Lib.hid (blk_call X2.out hO.2.1)
    have HS4 := Lib.hid (HS2.out.call hO.2.1)
    have HT4 := Lib.hid hO.bs
    rw [hlt] at HT4
    have HA : Hid (Calls Try.prog 7 #[.agg #[.int .i64 k, .int .i64 f, .string t], .slice A3 L.length c3] wc (AskPost ⟨k, f, t⟩ L.length (fun i => lt.getD i false) wc)) := ask7 ⟨k, f, t⟩ _ _ _ wc HT4.out
    rw [AskPost_eq] at HA
    dsimp only at HA
    rw [hst, Ha.out, Hx.out] at HA
    clear hcut hO hlt hst HB2 X2 HS2 O3 HT4 GX
    have z0 : wc.cell? ⟨w.heap.size, 0, none⟩ = some (.int .i64 k) := blk_cell X4.out 0
    have z1 : wc.cell? ⟨w.heap.size, 1, none⟩ = some (.int .i64 f) := blk_cell X4.out 1
    have z2 : wc.cell? ⟨w.heap.size, 2, none⟩ = some (.string t) := blk_cell X4.out 2
    go_upto_region 10 with (first | (go_at_call 7; refine HA.out.mono ?_; rintro e w5 ⟨rfl, hb5⟩; have HB5 := Lib.hid (HB4.out.trans (hb5.mono HB4.out.size)); have X5 := Lib.hid (blk_call X4.out hb5); have HS5 := Lib.hid (HS4.out.call hb5); clear hb5))
    clear HA z0 z1 z2 HB4 X4 HS4
    have y1 : w5.cell? ⟨w.heap.size, 1, none⟩ = some (.int .i64 f) := blk_cell X5.out 1
    go_cut [72] (fun s72 wz => ∃ T, s72 = .bool T ∧ Hid (T = (decide (0 ≤ f) && decide (f < (L.length : Int)))) ∧ wz = w5)
    case first =>
      by_cases h0 : 0 ≤ f
      · by_cases h1 : f < (L.length : Int)
        · go_wp2_with fail
          go_meet
          exact ⟨true, rfl, by simp [Hid, h0, h1], rfl⟩
        · go_wp2_with fail
          go_meet
          exact ⟨false, rfl, by have h2 : ¬ f < (L.length : Int) := (by omega); simp [Hid, h2], rfl⟩
      · go_wp2_with fail
        go_meet
        exact ⟨false, rfl, by have h2 : ¬ 0 ≤ f := (by omega); simp [Hid, h2], rfl⟩
    case rest =>
      obtain ⟨T, rfl, hT, rfl⟩ := hcut
      go_upto_if 72 with fail
      go_cut [14] (fun s14 wz => ∃ A' n' c', s14 = .slice A' n' c' ∧ wz = wc ∧ Hid (∃ g', Bs wc (.slice A' n' c') n' g' ∧ stB n' g' f = false))
      case first =>
        cases T
        · have E : stB L.length (fun i => L.getD i false) f = false := by
            rw [stB, ← hT.out]
            rfl
          go_wp2_with fail
          go_meet
          exact ⟨A1, L.length, c1, rfl, rfl, _, HS5.out, E⟩
        · obtain ⟨h0, h1⟩ : 0 ≤ f ∧ f < (L.length : Int) := by
            have := hT.out
            rw [eq_comm, Bool.and_eq_true, decide_eq_true_iff, decide_eq_true_iff] at this
            exact this
          obtain ⟨j, rfl⟩ : ∃ j : Nat, f = (j : Int) := ⟨f.toNat, by omega⟩
          have hjL : j ≤ L.length := by omega
          have hcp := HS5.out.cap
          have HT5 := Lib.hid (HS5.out.take j hjL)
          have hjc : (j : Int) ≤ (c1 : Int) := by omega
          clear hT
          go_wp2_with fail
          go_meet
          exact ⟨A1, j, c1, rfl, rfl, _, HT5.out, stB_self j⟩
      case rest =>
        obtain ⟨A6, n6, c6, rfl, rfl, hcc⟩ := hcut
        clear hT HS5 y1
        go_upto_region 13 with fail
        have HB6 := Lib.hid (HB5.out.alloc HB5.out.size (.cells #[.bool false, .bool false, .bool false, .bool false, .bool false, .bool false, .bool false, .bool false, .bool false] 4 (0, 0)))
        have X6 := Lib.hid (blk_alloc X5.out (.cells #[.bool false, .bool false, .bool false, .bool false, .bool false, .bool false, .bool false, .bool false, .bool false] 4 (0, 0)))
        have HN6 := Lib.hid (bs9 (blk_new wc _))
        have HAL := Lib.hid ((Below.refl _ wc).alloc (Nat.le_refl _) (.cells #[.bool false, .bool false, .bool false, .bool false, .bool false, .bool false, .bool false, .bool false, .bool false] 4 (0, 0)))
        obtain ⟨g', hg1, hg2⟩ := hcc.out
        have HC6 := Lib.hid (hg1.call HAL.out)
        clear hg1 hcc HAL HB5 X5
        generalize wc.alloc (.cells #[.bool false, .bool false, .bool false, .bool false, .bool false, .bool false, .bool false, .bool false, .bool false] 4 (0, 0)) = w6 at *
        generalize wc.heap.size = b6 at *
        have HA : Hid (Calls Try.prog 7 #[.agg #[.int .i64 k, .int .i64 f, .string t], .slice A6 n6 c6] w6 (AskPost ⟨k, f, t⟩ n6 g' w6)) := ask7 ⟨k, f, t⟩ _ _ _ w6 HC6.out
        rw [AskPost_eq] at HA
        dsimp only at HA
        rw [hg2] at HA
        clear hg2 HC6
        have z0 : w6.cell? ⟨w.heap.size, 0, none⟩ = some (.int .i64 k) := blk_cell X6.out 0
        have z1 : w6.cell? ⟨w.heap.size, 1, none⟩ = some (.int .i64 f) := blk_cell X6.out 1
        have z2 : w6.cell? ⟨w.heap.size, 2, none⟩ = some (.string t) := blk_cell X6.out 2
        go_upto_region 14 with (first | (go_at_call 7; refine HA.out.mono ?_; rintro e w7 ⟨rfl, hb7⟩; have HB7 := Lib.hid (HB6.out.trans (hb7.mono HB6.out.size)); have X7 := Lib.hid (blk_call X6.out hb7); have HN7 := Lib.hid (HN6.out.call hb7); clear hb7))
        clear HA z0 z1 z2 HB6 X6 HN6
        have HA : Hid (Calls Try.prog 7 #[.agg #[.int .i64 k, .int .i64 f, .string t], .slice (some ⟨b6, 0, none⟩) 9 9] w7 (AskPost ⟨k, f, t⟩ 9 (fun _ => false) w7)) := ask7 ⟨k, f, t⟩ _ _ _ w7 HN7.out
        rw [AskPost_eq] at HA
        dsimp only at HA
        rw [stB_none] at HA
        have z0 : w7.cell? ⟨w.heap.size, 0, none⟩ = some (.int .i64 k) := blk_cell X7.out 0
        have z1 : w7.cell? ⟨w.heap.size, 1, none⟩ = some (.int .i64 f) := blk_cell X7.out 1
        have z2 : w7.cell? ⟨w.heap.size, 2, none⟩ = some (.string t) := blk_cell X7.out 2
        generalize sayI k false = y at *
        generalize toT k false t = yt at *
        go_upto_region 15 with (first | (go_at_call 7; refine HA.out.mono ?_; rintro e w8 ⟨rfl, hb8⟩; have HB8 := Lib.hid (HB7.out.trans (hb8.mono HB7.out.size)); clear hb8))
        clear HA z0 z1 z2 HB7 X7 HN7 Ha Hx
        rcases HAX.out with ha | ⟨ha, hx⟩
        · clear HAX
          subst ha
          go_wp2_with (first | (go_at_call 3; refine (ruleRuns_any _).mono ?_; rintro e w9 ⟨rfl, hb9⟩; have HB9 := Lib.hid (HB8.out.trans (hb9.mono HB8.out.size)); clear hb9))
          go_ret
          exact ⟨rfl, HB9.out⟩
        · clear HAX
          subst hx
          have d2 : (a == 2) = false := by simpa using ha
          go_wp2_with (first | (go_at_call 3; refine (ruleRuns_any _).mono ?_; rintro e w9 ⟨rfl, hb9⟩; have HB9 := Lib.hid (HB8.out.trans (hb9.mono HB8.out.size)); clear hb9))
          go_ret
          exact ⟨rfl, HB9.out⟩
end Go.Proofs.Ytfmjlgplcepomaa
