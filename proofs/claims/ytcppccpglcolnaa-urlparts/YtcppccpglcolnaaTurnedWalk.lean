/-
  URLTurned, walked.
-/
import Derived.Test.YtcppccpglcolnaaKeepURL
import Derived.Test.YtcppccpglcolnaaBackWalk
import Derived.Deep.DeepCutAuto
import Derived.Deep.CutBlock
namespace Go.Proofs.Ytcppccpglcolnaa
open Go.RowKit Go.PlainAid

theorem words_small : ∀ s ∈ wordsL, 1 ≤ s.size ∧ s.size ≤ 64 := by
  have h : wordsL.all (fun s => decide (1 ≤ s.size ∧ s.size ≤ 64)) = true := by decide +kernel
  intro s hs
  rw [List.all_eq_true] at h
  exact of_decide_eq_true (h s hs)
theorem keep_right {p : List ByteArray} {q : List Pr} (h : KeepOK p q) : rightB p q = true := by
  obtain ⟨h1, h2, h3, h4⟩ := h
  rw [rightB, Bool.and_eq_true, Bool.and_eq_true, List.all_eq_true, List.all_eq_true]
  refine ⟨decide_eq_true (by omega), fun s hs => decide_eq_true (words_small s (h3 s hs)), fun x hx => ?_⟩
  rw [pairB, Bool.and_eq_true]
  exact ⟨decide_eq_true (words_small _ (h4 x hx).1), decide_eq_true (words_small _ (h4 x hx).2).2⟩

set_option maxRecDepth 100000 in
set_option maxHeartbeats 6400000 in
theorem turned_any (A1 A2 A3 : Option Addr) (n1 c1 n2 c2 n3 c3 : Nat) (f1 f2 f3 : Nat → Int) (at_ x how : Int) (w : World) (h1 : Ia w A1 n1 f1) (h2 : Ia w A2 n2 f2) (h3 : Ia w A3 n3 f3) :
    Calls Try.prog 6 #[.agg #[.slice A1 n1 c1, .slice A2 n2 c2, .slice A3 n3 c3], .int .i64 at_, .int .u8 x, .int .i64 how] w fun e w' => e = .returned (.bool true) ∧ Below w.heap.size w w' := by
  have H1 := Lib.hid h1
  have H2 := Lib.hid h2
  have H3 := Lib.hid h3
  clear h1 h2 h3
  have HB := Lib.hid ((Below.refl w.heap.size w).alloc (Nat.le_refl _) (.cells #[.slice A1 n1 c1, .slice A2 n2 c2, .slice A3 n3 c3] 44 (0, 0)))
  go_enter Try.func6, Try.ntmps6
  go_wp2_with fail
  generalize w.alloc (.cells #[.slice A1 n1 c1, .slice A2 n2 c2, .slice A3 n3 c3] 44) = w5 at *
  refine (url21 _ _ _ _ _ _ _ _ _ f1 f2 f3 _ (H1.out.call HB.out) (H2.out.call HB.out) (H3.out.call HB.out)).mono ?_
  rintro e w6 ⟨v1, v2, p, q, rfl, g1, g2, g3, g4⟩
  obtain ⟨V1, d1, e1, rfl⟩ := g1.shape
  obtain ⟨V2, d2, e2, rfl⟩ := g2.shape
  have GB := Lib.hid ((Below.refl w6.heap.size w6).alloc (Nat.le_refl _) (.cells #[.slice V1 d1 e1, .slice V2 d2 e2] 25 (0, 0)))
  have G1 := Lib.hid (g1.call GB.out)
  have G2 := Lib.hid (g2.call GB.out)
  have hr := keep_right g3
  have hsz := prn_size hr
  have T7 := Lib.hid (HB.out.trans ((g4.trans (GB.out.mono g4.size)).mono HB.out.size))
  clear g1 g2 g3 g4 hr
  go_wp2_with fail
  generalize w6.alloc (.cells #[.slice V1 d1 e1, .slice V2 d2 e2] 25) = w7 at *
  refine (print12 _ _ _ _ _ G1.out G2.out).mono ?_
  rintro e w8 ⟨rfl, h8⟩
  have T8 := Lib.hid (T7.out.trans (h8.mono T7.out.size))
  clear h8
  generalize prnS p q = S at *
  have z1 : ¬ (S.size : Int) < 1 := by omega
  have z2 : ((S.size : Int) - 1) = ((S.size - 1 : Nat) : Int) := by omega
  go_wp2_with fail
  refine (within22 at_ (S.size - 1) _ (by omega)).mono ?_
  rintro e w' ⟨i, hi, rfl, rfl⟩
  have hcv : ∀ (w : World) (b cap : Nat), w.cell? ⟨b, 0, none⟩ = some (.int .u8 x) → (convert 47 9 (.slice (some ⟨b, 0, none⟩) 1 cap)).run Try.prog w = .ok (.string (st [x])) w := fun w b cap h => one_text w b cap _ h
  have y0 : (0 : Int) ≤ (i : Int) := by omega
  have y1 : (i : Int) ≤ (S.size : Int) := by omega
  have y2 : (i : Int) + 1 ≤ (S.size : Int) := by omega
  have y3 : ((i : Int) + 1).toNat = i + 1 := by omega
  have y4 : (0 : Int) ≤ (i : Int) + 1 := by omega
  have e1 : (S.extract 0 i).size = i := by rw [← bs_len, bs_extract]; simp [bs_len]; omega
  have e2 : (S.extract (i + 1) S.size).size = S.size - (i + 1) := tail_size S (i + 1)
  have e3 : (S.extract i S.size).size = S.size - i := tail_size S i
  have e4 : (st [x]).size = 1 := by rw [st_size]; rfl
  clear z1 z2
  go_upto_block 0 with (go_at_call 22; refine (within22 how 3 _ (by omega)).mono ?_; rintro e w' ⟨h, hh, rfl, rfl⟩)
  go_cut [10] from 30 (fun v wz => ∃ S2 : ByteArray, v = .string S2 ∧ S2.size ≤ 6000 ∧ Below w.heap.size w wz)
  case first =>
    have h4 : h = 0 ∨ h = 1 ∨ h = 2 ∨ h = 3 := by omega
    rcases h4 with rfl | rfl | rfl | rfl
    · (try simp only [Int.ofNat_eq_natCast])
      have n1 : ¬ 9223372036854775807 < i + 1 := by omega
      have n2 : ¬ 9223372036854775807 < i + 1 + (S.size - (i + 1)) := by omega
      have n3 : IntKind.i64.wrap ((i : Int) + 1) = (i : Int) + 1 := by rw [IntKind.wrap_i64]; omega
      go_wp2_with fail
      go_region
      go_wp2_with fail
      go_meet
      exact ⟨_, rfl, by simp only [ByteArray.size_append]; omega, (T8.out.alloc (by have := T8.out.size; omega) _).drew⟩
    · (try simp only [Int.ofNat_eq_natCast])
      have n1 : ¬ 9223372036854775807 < i + 1 := by omega
      have n2 : ¬ 9223372036854775807 < i + 1 + (S.size - i) := by omega
      go_wp2_with fail
      go_region
      go_wp2_with fail
      go_meet
      exact ⟨_, rfl, by simp only [ByteArray.size_append]; omega, (T8.out.alloc (by have := T8.out.size; omega) _).drew⟩
    · (try simp only [Int.ofNat_eq_natCast])
      have n2 : ¬ 9223372036854775807 < i + (S.size - (i + 1)) := by omega
      have n3 : IntKind.i64.wrap ((i : Int) + 1) = (i : Int) + 1 := by rw [IntKind.wrap_i64]; omega
      go_wp2_with fail
      go_region
      go_wp2_with fail
      go_meet
      exact ⟨_, rfl, by simp only [ByteArray.size_append]; omega, T8.out.drew⟩
    · (try simp only [Int.ofNat_eq_natCast])
      have n1 : ¬ 9223372036854775807 < S.size + 1 := by omega
      go_wp2_with fail
      go_meet
      exact ⟨_, rfl, by simp only [ByteArray.size_append]; omega, T8.out.alloc (by have := T8.out.size; omega) _⟩
  case rest =>
    obtain ⟨S2, rfl, z9, hzz⟩ := hcut
    have TZ := Lib.hid hzz
    clear hzz
    clear hcv y0 y1 y2 y3 y4 e1 e2 e3 e4 G1 G2 GB H1 H2 H3 HB T7 T8
    by_cases hs : parB S2 = true
    · have hr := par_right hs
      obtain ⟨r1, r2, r3⟩ := par_prn hr
      have hsz2 := prn_size hr
      have er : erI (parB S2) = 0 := by rw [hs]; rfl
      have er2 : erI (parB (prnS (parP S2) (parQ S2))) = 0 := by rw [r1]; rfl
      have ln : (parP S2).length ≤ 100000 ∧ (parQ S2).length ≤ 100000 := by have := right_small hr; omega
      have LN := Lib.hid ln
      clear ln
      have R2 := Lib.hid r2
      have R3 := Lib.hid r3
      clear r2 r3
      go_wp2_with fail
      refine (parse9 _ _ (by omega)).mono ?_
      rintro e w4 ⟨v1, v2, rfl, g1, g2, g3⟩
      rw [er]
      obtain ⟨V1, d1, e1, rfl⟩ := g1.shape
      obtain ⟨V2, d2, e2, rfl⟩ := g2.shape
      have N4 := Lib.hid (blk_new w4 (.cells #[.slice V1 d1 e1, .slice V2 d2 e2] 25 (0, 0)))
      have GB := Lib.hid ((Below.refl w4.heap.size w4).alloc (Nat.le_refl _) (.cells #[.slice V1 d1 e1, .slice V2 d2 e2] 25 (0, 0)))
      have M4 := Lib.hid (TZ.out.trans ((g3.trans (GB.out.mono g3.size)).mono TZ.out.size))
      have G1 := Lib.hid (g1.call GB.out)
      have G2 := Lib.hid (g2.call GB.out)
      clear g1 g2 g3 er
      generalize parP S2 = P2 at *
      generalize parQ S2 = Q2 at *
      go_wp2_with fail
      generalize w4.alloc (.cells #[.slice V1 d1 e1, .slice V2 d2 e2] 25) = w5 at *
      refine (print12 _ _ _ _ _ G1.out G2.out).mono ?_
      rintro e w6 ⟨rfl, h6⟩
      have T6 := Lib.hid h6
      clear h6
      go_wp2_with fail
      refine (parse9 _ _ (by omega)).mono ?_
      rintro e w7 ⟨v1, v2, rfl, g1, g2, g3⟩
      rw [er2]
      rw [R2.out] at g1
      rw [R3.out] at g2
      obtain ⟨V3, d3, e3, rfl⟩ := g1.shape
      obtain ⟨V4, d4, e4, rfl⟩ := g2.shape
      have N7 := Lib.hid (blk_new w7 (.cells #[.slice V3 d3 e3, .slice V4 d4 e4] 25 (0, 0)))
      have GB7 := Lib.hid ((Below.refl w7.heap.size w7).alloc (Nat.le_refl _) (.cells #[.slice V3 d3 e3, .slice V4 d4 e4] 25 (0, 0)))
      have T8 := Lib.hid (T6.out.trans ((g3.trans (GB7.out.mono g3.size)).mono T6.out.size))
      have G3 := Lib.hid (g1.call GB7.out)
      have G4 := Lib.hid (g2.call GB7.out)
      clear g1 g2 g3 er2 r1
      obtain ⟨x0, x1, _, _⟩ := blk2 (blk_call N4.out T8.out)
      go_wp2_with fail
      generalize w7.alloc (.cells #[.slice V3 d3 e3, .slice V4 d4 e4] 25) = w8 at *
      refine (equal19 _ _ _ _ _ _ _ _ _ (G1.out.call T8.out) (G2.out.call T8.out) G3.out G4.out LN.out).mono ?_
      rintro e w10 ⟨rfl, h⟩
      rw [eqB_self]
      have T10 := Lib.hid (T8.out.trans (h.mono T8.out.size))
      clear h
      go_wp2_with fail
      refine (urlRuns_any _).mono ?_
      rintro e w12 ⟨rfl, h⟩
      have T12 := Lib.hid (T10.out.trans (h.mono T10.out.size))
      clear h
      go_wp2
      go_ret
      exact ⟨rfl, M4.out.trans (T12.out.mono M4.out.size)⟩
    · have hs : parB S2 = false := by simpa using hs
      obtain ⟨r2, r3⟩ := par_none hs
      have er : erI (parB S2) = 1 := by rw [hs]; rfl
      go_wp2_with fail
      refine (parse9 _ _ (by omega)).mono ?_
      rintro e w4 ⟨v1, v2, rfl, g1, g2, g3⟩
      rw [er]
      rw [r2] at g1
      rw [r3] at g2
      obtain ⟨V1, d1, e1, rfl⟩ := g1.shape
      obtain ⟨V2, d2, e2, rfl⟩ := g2.shape
      have GB := Lib.hid ((Below.refl w4.heap.size w4).alloc (Nat.le_refl _) (.cells #[.slice V1 d1 e1, .slice V2 d2 e2] 25 (0, 0)))
      have M4 := Lib.hid (TZ.out.trans ((g3.trans (GB.out.mono g3.size)).mono TZ.out.size))
      have G1 := Lib.hid (g1.call GB.out)
      have G2 := Lib.hid (g2.call GB.out)
      clear g1 g2 g3 er r2 r3
      go_wp2_with fail
      generalize w4.alloc (.cells #[.slice V1 d1 e1, .slice V2 d2 e2] 25) = w5 at *
      refine (equal19 _ _ _ _ _ _ _ _ _ G1.out G2.out (ss_nil _) (ps_nil _) (by simp)).mono ?_
      rintro e w6 ⟨rfl, h⟩
      rw [eqB_self]
      have M6 := Lib.hid (M4.out.trans (h.mono M4.out.size))
      clear h
      go_wp2_with fail
      refine (urlRuns_any _).mono ?_
      rintro e w7 ⟨rfl, h⟩
      have M7 := Lib.hid (M6.out.trans (h.mono M6.out.size))
      clear h
      go_wp2
      go_ret
      exact ⟨rfl, M7.out⟩
end Go.Proofs.Ytcppccpglcolnaa
