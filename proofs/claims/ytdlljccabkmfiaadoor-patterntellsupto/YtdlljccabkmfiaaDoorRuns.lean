/-
  Chapter 5's runs, walked.
-/
import Derived.Test.YtdlljccabkmfiaaDoorComp
import Derived.Test.YtdlljccabkmfiaaDoorBld
namespace Go.Proofs.YtdlljccabkmfiaaDoor
open Go.RowKit Go.PlainAid

def segs1 : List Sg := [(0, ⟨#[97]⟩), (1, ⟨#[105, 100]⟩), (3, ⟨#[114, 101, 115, 116]⟩)]
def path1 : List ByteArray := [⟨#[97]⟩, ⟨#[55]⟩, ⟨#[120, 32, 121]⟩, ⟨#[122]⟩]
def prs1 : List Pr := [(⟨#[105, 100]⟩, ⟨#[55]⟩), (⟨#[114, 101, 115, 116]⟩, ⟨#[120, 37, 50, 48, 121, 47, 122]⟩)]
def prs2 : List Pr := [(⟨#[114, 101, 115, 116]⟩, ⟨#[120, 37, 50, 48, 121, 47, 122]⟩), (⟨#[105, 100]⟩, ⟨#[55]⟩)]
def prs3 : List Pr := [(⟨#[105, 100]⟩, ⟨#[]⟩), (⟨#[114, 101, 115, 116]⟩, ⟨#[]⟩)]
theorem run1_is : cmB ⟨#[47, 97, 47, 58, 105, 100, 47, 42, 114, 101, 115, 116]⟩ = true ∧ cmL ⟨#[47, 97, 47, 58, 105, 100, 47, 42, 114, 101, 115, 116]⟩ = segs1 := by decide +kernel
theorem run2_is : mtB segs1 path1 = true ∧ mtL segs1 path1 = prs1 := by decide +kernel
theorem run3_is : bdB segs1 prs2 = true ∧ bdL segs1 prs2 = path1 := by decide +kernel
theorem run4_is : bdB segs1 prs3 = false := by decide +kernel
theorem run5_is : cmB ⟨#[47, 97, 47, 58, 120, 47, 58, 120]⟩ = false := by decide +kernel
theorem path1_z : (∀ s ∈ path1, s.size ≤ 100000000) ∧ path1.length ≤ 1000 := by decide +kernel
theorem prs2_z : prs2.length ≤ 1000000000 ∧ (∀ p ∈ prs2, p.2.size ≤ 100000000) := by decide +kernel
theorem prs3_z : prs3.length ≤ 1000000000 ∧ (∀ p ∈ prs3, p.2.size ≤ 100000000) := by decide +kernel

set_option maxHeartbeats 3200000 in
set_option maxRecDepth 100000 in
theorem patRuns_any (w : World) : Calls Tryd.prog 3 #[] w fun e w' => e = .returned (.bool true) ∧ Below w.heap.size w w' := by
  have R1 := Lib.hid run1_is
  have R2 := Lib.hid run2_is
  have R3 := Lib.hid run3_is
  have R4 := Lib.hid run4_is
  have R5 := Lib.hid run5_is
  go_enter Tryd.func3, Tryd.ntmps3
  go_wp2_with fail
  refine (compile7 _ _ (by decide)).mono ?_
  rintro e w1 ⟨v1, rfl, h1, b1⟩
  rw [R1.out.1]
  rw [R1.out.2] at h1
  have H1 := Lib.hid h1
  have B1 := Lib.hid b1
  obtain ⟨A1, n1, c1, rfl⟩ := h1.shape
  clear h1 b1
  go_wp2_with fail
  have N2 := Lib.hid (ss_new (l := path1) (n := 4) (blk_new w1 (.cells #[.string ⟨#[97]⟩, .string ⟨#[55]⟩, .string ⟨#[120, 32, 121]⟩, .string ⟨#[122]⟩] 9 (0, 0))) rfl)
  have B2 := Lib.hid (B1.out.alloc B1.out.size (.cells #[.string ⟨#[97]⟩, .string ⟨#[55]⟩, .string ⟨#[120, 32, 121]⟩, .string ⟨#[122]⟩] 9 (0, 0)))
  have C2 := Lib.hid (H1.out.call ((Below.refl w1.heap.size w1).alloc (Nat.le_refl _) (.cells #[.string ⟨#[97]⟩, .string ⟨#[55]⟩, .string ⟨#[120, 32, 121]⟩, .string ⟨#[122]⟩] 9 (0, 0))))
  generalize w1.alloc (.cells #[.string ⟨#[97]⟩, .string ⟨#[55]⟩, .string ⟨#[120, 32, 121]⟩, .string ⟨#[122]⟩] 9 (0, 0)) = w2 at *
  refine (match8 _ _ segs1 path1 _ C2.out N2.out path1_z.1 path1_z.2).mono ?_
  rintro e w3 ⟨v3, rfl, h3, b3⟩
  rw [R2.out.1]
  rw [R2.out.2] at h3
  have H3 := Lib.hid h3
  have B3 := Lib.hid (B2.out.trans (b3.mono B2.out.size))
  have C3 := Lib.hid (C2.out.call b3)
  obtain ⟨A3, n3, c3, rfl⟩ := h3.shape
  clear h3 b3
  go_wp2_with fail
  have N4 := Lib.hid (ps_new (l := prs2) (n := 2) (blk_new w3 (.cells #[.string ⟨#[114, 101, 115, 116]⟩, .string ⟨#[120, 37, 50, 48, 121, 47, 122]⟩, .string ⟨#[105, 100]⟩, .string ⟨#[55]⟩] 32 (0, 0))) rfl)
  have b4 := ((Below.refl w3.heap.size w3).alloc (Nat.le_refl _) (.cells #[.string ⟨#[114, 101, 115, 116]⟩, .string ⟨#[120, 37, 50, 48, 121, 47, 122]⟩, .string ⟨#[105, 100]⟩, .string ⟨#[55]⟩] 32 (0, 0)))
  have B4 := Lib.hid (B3.out.trans (b4.mono B3.out.size))
  have C4 := Lib.hid (C3.out.call b4)
  have D4 := Lib.hid (H3.out.call b4)
  clear b4
  generalize w3.alloc (.cells #[.string ⟨#[114, 101, 115, 116]⟩, .string ⟨#[120, 37, 50, 48, 121, 47, 122]⟩, .string ⟨#[105, 100]⟩, .string ⟨#[55]⟩] 32 (0, 0)) = w4 at *
  refine (build9 _ _ segs1 prs2 _ C4.out N4.out prs2_z.1 prs2_z.2).mono ?_
  rintro e w5 ⟨v5, rfl, h5, b5⟩
  rw [R3.out.1]
  rw [R3.out.2] at h5
  have H5 := Lib.hid h5
  have B5 := Lib.hid (B4.out.trans (b5.mono B4.out.size))
  have C5 := Lib.hid (C4.out.call b5)
  have D5 := Lib.hid (D4.out.call b5)
  obtain ⟨A5, n5, c5, rfl⟩ := h5.shape
  clear h5 b5
  go_wp2_with fail
  have N6 := Lib.hid (ps_new (l := prs3) (n := 2) (blk_new w5 (.cells #[.string ⟨#[105, 100]⟩, .string ⟨#[]⟩, .string ⟨#[114, 101, 115, 116]⟩, .string ⟨#[]⟩] 32 (0, 0))) rfl)
  have b6 := ((Below.refl w5.heap.size w5).alloc (Nat.le_refl _) (.cells #[.string ⟨#[105, 100]⟩, .string ⟨#[]⟩, .string ⟨#[114, 101, 115, 116]⟩, .string ⟨#[]⟩] 32 (0, 0)))
  have B6 := Lib.hid (B5.out.trans (b6.mono B5.out.size))
  have C6 := Lib.hid (C5.out.call b6)
  have D6 := Lib.hid (D5.out.call b6)
  have E6 := Lib.hid (H5.out.call b6)
  clear b6
  generalize w5.alloc (.cells #[.string ⟨#[105, 100]⟩, .string ⟨#[]⟩, .string ⟨#[114, 101, 115, 116]⟩, .string ⟨#[]⟩] 32 (0, 0)) = w6 at *
  refine (build9 _ _ segs1 prs3 _ C6.out N6.out prs3_z.1 prs3_z.2).mono ?_
  rintro e w7 ⟨v7, rfl, h7, b7⟩
  rw [R4.out]
  have B7 := Lib.hid (B6.out.trans (b7.mono B6.out.size))
  have D7 := Lib.hid (D6.out.call b7)
  have E7 := Lib.hid (E6.out.call b7)
  obtain ⟨A7, n7, c7, rfl⟩ := h7.shape
  clear h7 b7
  go_wp2_with fail
  refine (compile7 _ _ (by decide)).mono ?_
  rintro e w8 ⟨v8, rfl, h8, b8⟩
  rw [R5.out]
  have B8 := Lib.hid (B7.out.trans (b8.mono B7.out.size))
  have D8 := Lib.hid (D7.out.call b8)
  have E8 := Lib.hid (E7.out.call b8)
  obtain ⟨A8, n8, c8, rfl⟩ := h8.shape
  clear h8 b8
  go_wp2_with fail
  have N9 := Lib.hid (ps_new (l := prs1) (n := 2) (blk_new w8 (.cells #[.string ⟨#[105, 100]⟩, .string ⟨#[55]⟩, .string ⟨#[114, 101, 115, 116]⟩, .string ⟨#[120, 37, 50, 48, 121, 47, 122]⟩] 32 (0, 0))) rfl)
  have b9 := ((Below.refl w8.heap.size w8).alloc (Nat.le_refl _) (.cells #[.string ⟨#[105, 100]⟩, .string ⟨#[55]⟩, .string ⟨#[114, 101, 115, 116]⟩, .string ⟨#[120, 37, 50, 48, 121, 47, 122]⟩] 32 (0, 0)))
  have B9 := Lib.hid (B8.out.trans (b9.mono B8.out.size))
  have D9 := Lib.hid (D8.out.call b9)
  have E9 := Lib.hid (E8.out.call b9)
  clear b9
  generalize w8.alloc (.cells #[.string ⟨#[105, 100]⟩, .string ⟨#[55]⟩, .string ⟨#[114, 101, 115, 116]⟩, .string ⟨#[120, 37, 50, 48, 121, 47, 122]⟩] 32 (0, 0)) = w9 at *
  refine (sameP _ _ prs1 prs1 _ D9.out N9.out (by decide)).mono ?_
  rintro e w10 ⟨rfl, b10⟩
  rw [decide_eq_true rfl]
  have B10 := Lib.hid (B9.out.trans (b10.mono B9.out.size))
  have E10 := Lib.hid (E9.out.call b10)
  clear b10
  go_wp2_with fail
  have N11 := Lib.hid (ss_new (l := path1) (n := 4) (blk_new w10 (.cells #[.string ⟨#[97]⟩, .string ⟨#[55]⟩, .string ⟨#[120, 32, 121]⟩, .string ⟨#[122]⟩] 9 (0, 0))) rfl)
  have b11 := ((Below.refl w10.heap.size w10).alloc (Nat.le_refl _) (.cells #[.string ⟨#[97]⟩, .string ⟨#[55]⟩, .string ⟨#[120, 32, 121]⟩, .string ⟨#[122]⟩] 9 (0, 0)))
  have B11 := Lib.hid (B10.out.trans (b11.mono B10.out.size))
  have E11 := Lib.hid (E10.out.call b11)
  clear b11
  generalize w10.alloc (.cells #[.string ⟨#[97]⟩, .string ⟨#[55]⟩, .string ⟨#[120, 32, 121]⟩, .string ⟨#[122]⟩] 9 (0, 0)) = w11 at *
  refine (sameS _ _ path1 path1 _ E11.out N11.out (by decide)).mono ?_
  rintro e w12 ⟨rfl, b12⟩
  rw [decide_eq_true rfl]
  have B12 := Lib.hid (B11.out.trans (b12.mono B11.out.size))
  clear b12
  go_wp2
  go_ret
  exact ⟨rfl, B12.out⟩
end Go.Proofs.YtdlljccabkmfiaaDoor
