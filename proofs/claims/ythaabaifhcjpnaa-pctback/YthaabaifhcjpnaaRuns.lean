/-
  Chapter 3's runs, walked.
-/
import Derived.Test.YthaabaifhcjpnaaDec
namespace Go.Proofs.Ythaabaifhcjpnaa
open Go.RowKit Go.PlainAid

set_option maxHeartbeats 1600000 in
theorem pctRuns_any (w : World) : Calls Try.prog 3 #[] w fun e w' => e = .returned (.bool true) ∧ Below w.heap.size w w' := by
  have r1 : decS ⟨#[37, 50, 102]⟩ = ⟨#[47]⟩ := by decide +kernel
  have r2 : decB ⟨#[37, 50, 102]⟩ = true := by decide +kernel
  have r3 : decB ⟨#[37, 52]⟩ = false := by decide +kernel
  have r4 : decB ⟨#[97, 32, 98]⟩ = false := by decide +kernel
  have r5 : decS ⟨#[37, 52, 49]⟩ = ⟨#[65]⟩ := by decide +kernel
  have r6 : decB ⟨#[37, 52, 49]⟩ = true := by decide +kernel
  have r7 : encS ⟨#[97, 32, 98, 47]⟩ = ⟨#[97, 37, 50, 48, 98, 37, 50, 70]⟩ := by decide +kernel
  go_enter Try.func3, Try.ntmps3
  go_wp2_with fail
  refine (decode6 _ _ (by decide)).mono ?_
  rintro e w1 ⟨rfl, h1⟩
  go_wp2_with fail
  refine (decode6 _ _ (by decide)).mono ?_
  rintro e w2 ⟨rfl, h2⟩
  go_wp2_with fail
  refine (decode6 _ _ (by decide)).mono ?_
  rintro e w3 ⟨rfl, h3⟩
  go_wp2_with fail
  refine (decode6 _ _ (by decide)).mono ?_
  rintro e w4 ⟨rfl, h4⟩
  go_wp2_with fail
  refine (encode7 _ _ (by decide)).mono ?_
  rintro e w5 ⟨rfl, h5⟩
  have hb : Below w.heap.size w w5 := by
    have s1 := h1.size
    have s2 := h2.size
    have s3 := h3.size
    have s4 := h4.size
    exact (((h1.trans (h2.mono s1)).trans (h3.mono (by omega))).trans (h4.mono (by omega))).trans (h5.mono (by omega))
  have HB := Lib.hid hb
  clear hb h1 h2 h3 h4 h5
  go_wp2
  go_ret
  exact ⟨rfl, HB.out⟩
end Go.Proofs.Ythaabaifhcjpnaa
