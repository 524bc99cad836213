/-
  Chapter 4's runs, walked.
-/
import Derived.Test.YtcppccpglcolnaaParse
import Derived.Test.YtcppccpglcolnaaPrint
import Derived.Test.YtcppccpglcolnaaSame
namespace Go.Proofs.Ytcppccpglcolnaa
open Go.RowKit Go.PlainAid

def wrongs : List ByteArray := [⟨#[47, 97, 47]⟩, ⟨#[97]⟩, ⟨#[47, 97, 63]⟩, ⟨#[47, 47]⟩, ⟨#[]⟩, ⟨#[47, 97, 63, 63]⟩]
theorem wrongs_all : ∀ k, k < 6 → parB (wrongs.getD k default) = false ∧ (wrongs.getD k default).size ≤ 10 := by
  have h : ∀ k : Fin 6, parB (wrongs.getD k.val default) = false ∧ (wrongs.getD k.val default).size ≤ 10 := by decide +kernel
  exact fun k hk => h ⟨k, hk⟩
def run1 : ByteArray := ⟨#[47, 97, 37, 50, 102, 98, 47, 99, 63, 120, 61, 49, 38, 121]⟩
theorem run1_is : parB run1 = true ∧ parP run1 = [⟨#[97, 47, 98]⟩, ⟨#[99]⟩] ∧ parQ run1 = [(⟨#[120]⟩, ⟨#[49]⟩), (⟨#[121]⟩, ⟨#[]⟩)] := by decide +kernel
theorem run2_is : parB ⟨#[47]⟩ = true ∧ parP ⟨#[47]⟩ = [] ∧ parQ ⟨#[47]⟩ = [] := by decide +kernel
theorem run3_is : prnS [⟨#[97, 47, 98]⟩, ⟨#[99]⟩] [(⟨#[120]⟩, ⟨#[49]⟩), (⟨#[121]⟩, ⟨#[]⟩)] = ⟨#[47, 97, 37, 50, 70, 98, 47, 99, 63, 120, 61, 49, 38, 121, 61]⟩ := by decide +kernel
theorem run4_is : prnS [] [] = ⟨#[47]⟩ := by decide +kernel

/-- a new block of texts -/
theorem ss_new {w : World} {b : Nat} {l : List ByteArray} {n : Nat} (h : w.heap[b]? = some (.cells (l.map Value.string).toArray 9 (0, 0))) (hn : l.length = n) : Ss w (.slice (some ⟨b, 0, none⟩) n n) l := by
  subst hn
  refine ⟨_, _, rfl, Nat.le_refl _, (fun h => by cases h), fun i hi => ⟨b, 0, rfl, ?_⟩⟩
  rw [blk_cell h]
  simp [List.getD, hi]
theorem ps_new {w : World} {b : Nat} {l : List Pr} {n : Nat} (h : w.heap[b]? = some (.cells (l.flatMap prC).toArray 32 (0, 0))) (hn : l.length = n) : Ps w (.slice (some ⟨b, 0, none⟩) n n) l := by
  subst hn
  refine ⟨_, _, rfl, Nat.le_refl _, (fun h => by cases h), fun i hi => ⟨b, 0, rfl, ?_, ?_⟩⟩
  · rw [blk_cell h]
    have := (prC_at l i hi).1
    simpa using this
  · rw [blk_cell h]
    have := (prC_at l i hi).2
    simpa using this

set_option maxHeartbeats 3200000 in
theorem urlRuns_any (w : World) : Calls Try.prog 3 #[] w fun e w' => e = .returned (.bool true) ∧ Below w.heap.size w w' := by
  have R1 := Lib.hid run1_is
  have R2 := Lib.hid run2_is
  have R3 := Lib.hid run3_is
  have R4 := Lib.hid run4_is
  go_enter Try.func3, Try.ntmps3
  go_wp2_with fail
  refine (parse9 _ _ (by decide)).mono ?_
  rintro e w1 ⟨v1, v2, rfl, h1, h2, h3⟩
  have er1 : erI (parB ⟨#[47, 97, 37, 50, 102, 98, 47, 99, 63, 120, 61, 49, 38, 121]⟩) = 0 := by rw [show parB ⟨#[47, 97, 37, 50, 102, 98, 47, 99, 63, 120, 61, 49, 38, 121]⟩ = true from R1.out.1]; rfl
  rw [er1]
  have h1 : Ss w1 v1 [⟨#[97, 47, 98]⟩, ⟨#[99]⟩] := by rw [← R1.out.2.1]; exact h1
  have h2 : Ps w1 v2 [(⟨#[120]⟩, ⟨#[49]⟩), (⟨#[121]⟩, ⟨#[]⟩)] := by rw [← R1.out.2.2]; exact h2
  have H1 := Lib.hid h1
  have H2 := Lib.hid h2
  have H3 := Lib.hid h3
  obtain ⟨A1, n1, p1, rfl⟩ := h1.shape
  obtain ⟨A2, n2, p2, rfl⟩ := h2.shape
  clear h1 h2 h3 er1
  go_wp2_with fail
  have HU := Lib.hid (blk_new w1 (.cells #[.slice A1 n1 p1, .slice A2 n2 p2] 25 (0, 0)))
  have HB2 := Lib.hid ((Below.refl w1.heap.size w1).alloc (Nat.le_refl _) (.cells #[.slice A1 n1 p1, .slice A2 n2 p2] 25 (0, 0)))
  generalize w1.alloc (.cells #[.slice A1 n1 p1, .slice A2 n2 p2] 25) = w2 at *
  refine (parse9 _ _ (by decide)).mono ?_
  rintro e w3 ⟨v3, v4, rfl, h1, h2, h3⟩
  have er1 : erI (parB ⟨#[47]⟩) = 0 := by rw [R2.out.1]; rfl
  rw [er1]
  rw [R2.out.2.1] at h1
  rw [R2.out.2.2] at h2
  have HB3 := Lib.hid (HB2.out.trans (h3.mono HB2.out.size))
  have HU3 := Lib.hid (blk_call HU.out h3)
  have H5 := Lib.hid h1
  have H6 := Lib.hid h2
  obtain ⟨A3, cp3, rfl, _, _, _⟩ := h1
  obtain ⟨A4, cp4, rfl, _, _, _⟩ := h2
  clear h3 er1 HU HB2
  go_wp2_with fail
  have HV := Lib.hid (blk_alloc (blk_new w3 (.cells #[.slice A3 0 cp3, .slice A4 0 cp4] 25 (0, 0))) (.cells #[.string ⟨#[47, 97, 47]⟩, .string ⟨#[97]⟩, .string ⟨#[47, 97, 63]⟩, .string ⟨#[47, 47]⟩, .string ⟨#[]⟩, .string ⟨#[47, 97, 63, 63]⟩] 9 (0, 0)))
  have HW := Lib.hid (blk_new1 w3 (.cells #[.slice A3 0 cp3, .slice A4 0 cp4] 25 (0, 0)) (.cells #[.string ⟨#[47, 97, 47]⟩, .string ⟨#[97]⟩, .string ⟨#[47, 97, 63]⟩, .string ⟨#[47, 47]⟩, .string ⟨#[]⟩, .string ⟨#[47, 97, 63, 63]⟩] 9 (0, 0)))
  have HB4 := Lib.hid (((Below.refl w3.heap.size w3).alloc (Nat.le_refl _) (.cells #[.slice A3 0 cp3, .slice A4 0 cp4] 25 (0, 0))).alloc (by simp) (.cells #[.string ⟨#[47, 97, 47]⟩, .string ⟨#[97]⟩, .string ⟨#[47, 97, 63]⟩, .string ⟨#[47, 47]⟩, .string ⟨#[]⟩, .string ⟨#[47, 97, 63, 63]⟩] 9 (0, 0)))
  have hs5 : w3.heap.size + 2 = ((w3.alloc (.cells #[.slice A3 0 cp3, .slice A4 0 cp4] 25 (0, 0))).alloc (.cells #[.string ⟨#[47, 97, 47]⟩, .string ⟨#[97]⟩, .string ⟨#[47, 97, 63]⟩, .string ⟨#[47, 47]⟩, .string ⟨#[]⟩, .string ⟨#[47, 97, 63, 63]⟩] 9 (0, 0))).heap.size := by simp
  generalize (w3.alloc (.cells #[.slice A3 0 cp3, .slice A4 0 cp4] 25 (0, 0))).alloc (.cells #[.string ⟨#[47, 97, 47]⟩, .string ⟨#[97]⟩, .string ⟨#[47, 97, 63]⟩, .string ⟨#[47, 47]⟩, .string ⟨#[]⟩, .string ⟨#[47, 97, 63, 63]⟩] 9 (0, 0)) = w5 at *
  have HL := Lib.hid (ss_new (l := wrongs) (n := 6) HW.out rfl)
  have HB5 := Lib.hid (HB3.out.trans (HB4.out.mono (by have := HB3.out.size; omega)))
  have HU5 := Lib.hid (blk_call HU3.out HB4.out)
  have HS5 := Lib.hid hs5
  clear hs5
  go_loopw [19] (fun i wr => ∃ (k : Nat), k ≤ 6 ∧ i = .int .i64 k ∧ Below w5.heap.size w5 wr) (fun i _ => 6 - (intOf i).toNat)
  case atStart => exact ⟨0, by omega, rfl, Below.refl _ _⟩
  case round =>
    obtain ⟨k, hk, rfl, hbw⟩ := hrel
    have HR := Lib.hid hbw
    by_cases hlt : k < 6
    · obtain ⟨hp, hz⟩ := wrongs_all k hlt
      have hc : wr.cell? ⟨w3.heap.size + 1, k, none⟩ = some (.string (wrongs.getD k default)) := by
        obtain ⟨A, cap, e, _, _, hc⟩ := HL.out.call hbw
        obtain ⟨b, o, rfl, hcc⟩ := hc k hlt
        cases e
        simpa using hcc
      clear hbw
      have c0 : (k : Int) < 6 := by omega
      generalize wrongs.getD k default = x at *
      have er : erI (parB x) = 1 := by rw [hp]; rfl
      go_wp2_with (first | (go_at_call 9; refine (parse9 _ _ (by omega)).mono ?_; rintro e w6 ⟨v5, v6, rfl, h1, h2, h3⟩; rw [er]; obtain ⟨A5, n5, p5, rfl⟩ := h1.shape; obtain ⟨A6, n6, p6, rfl⟩ := h2.shape; have H7 := Lib.hid h3; clear h1 h2 h3))
      go_roundw
      case rel => exact ⟨k + 1, by omega, by go_num, (HR.out.trans (H7.out.mono HR.out.size)).alloc (by have := HR.out.size; have := H7.out.size; omega) _⟩
      case measure => simp [intOf]; omega
    · obtain rfl : k = 6 := by omega
      have HU6 := Lib.hid (blk_call HU5.out hbw)
      have HV6 := Lib.hid (blk_call HV.out hbw)
      clear hbw
      obtain ⟨u0, u1, _, _⟩ := blk2 HU6.out
      have H1w := Lib.hid (H1.out.call (HB5.out.trans (HR.out.mono HB5.out.size)))
      have H2w := Lib.hid (H2.out.call (HB5.out.trans (HR.out.mono HB5.out.size)))
      have H5w := Lib.hid (H5.out.call (HB4.out.trans (HR.out.mono HB4.out.size)))
      have H6w := Lib.hid (H6.out.call (HB4.out.trans (HR.out.mono HB4.out.size)))
      have HZ := Lib.hid (H3.out.trans ((HB5.out.trans (HR.out.mono HB5.out.size)).mono H3.out.size))
      go_wp2_with fail
      have N1 := Lib.hid (ss_new (l := [⟨#[97, 47, 98]⟩, ⟨#[99]⟩]) (n := 2) (blk_new wr (.cells #[.string ⟨#[97, 47, 98]⟩, .string ⟨#[99]⟩] 9 (0, 0))) rfl)
      have B1 := Lib.hid ((Below.refl wr.heap.size wr).alloc (Nat.le_refl _) (.cells #[.string ⟨#[97, 47, 98]⟩, .string ⟨#[99]⟩] 9 (0, 0)))
      generalize wr.alloc (.cells #[.string ⟨#[97, 47, 98]⟩, .string ⟨#[99]⟩] 9 (0, 0)) = w7 at *
      refine (same10 _ _ _ _ _ (H1w.out.call B1.out) N1.out (by decide)).mono ?_
      rintro e w8 ⟨rfl, h8⟩
      have B2 := Lib.hid (B1.out.trans (h8.mono B1.out.size))
      clear h8
      obtain ⟨u0, u1, _, _⟩ := blk2 (blk_call HU6.out B2.out)
      go_wp2_with fail
      have N2 := Lib.hid (ps_new (l := [(⟨#[120]⟩, ⟨#[49]⟩), (⟨#[121]⟩, ⟨#[]⟩)]) (n := 2) (blk_new w8 (.cells #[.string ⟨#[120]⟩, .string ⟨#[49]⟩, .string ⟨#[121]⟩, .string ⟨#[]⟩] 32 (0, 0))) rfl)
      have B3 := Lib.hid ((Below.refl w8.heap.size w8).alloc (Nat.le_refl _) (.cells #[.string ⟨#[120]⟩, .string ⟨#[49]⟩, .string ⟨#[121]⟩, .string ⟨#[]⟩] 32 (0, 0)))
      generalize w8.alloc (.cells #[.string ⟨#[120]⟩, .string ⟨#[49]⟩, .string ⟨#[121]⟩, .string ⟨#[]⟩] 32 (0, 0)) = w9 at *
      have B4 := Lib.hid (B2.out.trans (B3.out.mono B2.out.size))
      refine (same11 _ _ _ _ _ (H2w.out.call B4.out) N2.out (by decide)).mono ?_
      rintro e w10 ⟨rfl, h8⟩
      have B5 := Lib.hid (B4.out.trans (h8.mono B4.out.size))
      clear h8
      obtain ⟨u2, u3, _, _⟩ := blk2 (blk_call HU6.out B5.out)
      go_wp2_with fail
      refine (print12 _ _ _ _ _ (H1w.out.call B5.out) (H2w.out.call B5.out)).mono ?_
      rintro e w11 ⟨rfl, h8⟩
      rw [R3.out]
      have B6 := Lib.hid (B5.out.trans (h8.mono B5.out.size))
      clear h8
      obtain ⟨u4, u5, _, _⟩ := blk2 (blk_call HV6.out B6.out)
      go_wp2_with fail
      refine (print12 _ _ _ _ _ (H5w.out.call B6.out) (H6w.out.call B6.out)).mono ?_
      rintro e w12 ⟨rfl, h8⟩
      rw [R4.out]
      have B7 := Lib.hid (B6.out.trans (h8.mono B6.out.size))
      clear h8
      go_wp2
      go_ret
      exact ⟨rfl, HZ.out.trans (B7.out.mono HZ.out.size)⟩
end Go.Proofs.Ytcppccpglcolnaa
