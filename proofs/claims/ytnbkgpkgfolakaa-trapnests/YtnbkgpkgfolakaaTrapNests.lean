/-
  Proved: the law TrapNests returns true for any list of bools and any int: the first that throws is told, what a Run within catches doesn't go on, all ahead were called and none behind; the arguments read as they did. Conditions: none.
-/
import Derived.Test.YtnbkgpkgfolakaaRows
import Derived.Test.YtnbkgpkgfolakaaNests
import Derived.Deep.Grids
import Derived.WideKeyArgs
import Derived.ChangeMaps5
import Derived.Carry
import Derived.WalkKit
import Derived.ProofKit
import Derived.OpenShut
namespace Go.Proofs.Ytnbkgpkgfolakaa.trapNests
open Go.ChangeShapes Go.WideShapes Go.ChangeAt Go.RowKit Go.ChangeMaps Go.Deep
set_option linter.unusedVariables false

theorem own : ownKnob Try.prog.godebug = none := by kernel_rfl

theorem cells4 : Try.prog.cellsOf 4 = 1 := by kernel_rfl
theorem laid : laidOutB Try.prog = true := by kernel_rfl
theorem reads36 : Try.prog.readableRec 36 = true := by kernel_rfl

/-- the first that throws, or all of them -/
theorem first_true (f : Nat → Bool) (m : Nat) : ∃ p, p ≤ m ∧ (∀ j, j < p → f j = false) ∧ (p < m → f p = true) := by
  induction m with
  | zero => exact ⟨0, Nat.le_refl _, fun j hj => by omega, fun h => by omega⟩
  | succ m ih =>
    obtain ⟨p, h1, h2, h3⟩ := ih
    by_cases hp : p < m
    · exact ⟨p, by omega, h2, fun _ => h3 hp⟩
    · obtain rfl : p = m := by omega
      cases hf : f p with
      | true => exact ⟨p, by omega, h2, fun _ => hf⟩
      | false => exact ⟨p + 1, by omega, fun j hj => by
          by_cases e : j = p
          · rw [e]; exact hf
          · exact h2 j (by omega), fun h => by omega⟩

theorem walk (ao : Option Addr) (len cap : Nat) (f : Nat → Bool) (v : Int) (w : World) (hb : BoolsAt ao len f w) :
    Calls Try.prog 5 #[.slice ao len cap, .int .i64 v] w fun e w' => e = .returned (.bool true) ∧ Below w.heap.size w w' := by
  by_cases h0 : 0 < len
  · obtain ⟨b, off, rfl, hc⟩ := hb h0
    obtain ⟨p, h1, h2, h3⟩ := first_true f (min len 12)
    exact nests_pos b off len cap (min len 12) p f v w (fun j hj => (hc j hj).1) (hc 0 h0).2 rfl h0 h1 h2 h3
  · obtain rfl : len = 0 := by omega
    exact nests_zero ao cap v w

set_option maxRecDepth 100000 in
theorem lifted (os : Os) (started : os.Started) (H : Type) (enc : TypeId × Value → H) :
    ReturnsInHanded {} Try.checked os 5 .any (Rows.trapNestsSpec.pre6 enc Try.prog Try.f5 Rows.trapNestsRow.domain false) (Rows.trapNestsSpec.post enc Try.prog Try.f5 false true false false) := by
  refine returnsInHanded_of_change (C := Try.checked) own started (by kernel_rfl) Try.func5
    (ChangeSpec.witness6 (enc := enc) (C := Try.checked) false ⟨#[], #[.slice none 0 0, .int .i64 0], []⟩ 8 (by kernel_rfl) (by kernel_rfl) (by kernel_rfl) (by kernel_rfl)) ?_
  intro W base args ds gs before hval0 hW hcnd _
  have hval : ∀ (j : Nat) t v, Try.f5.params[j]? = some t → args[j]? = some v → Value.okWide Try.prog W .any base t v := hval0
  have hW' := hW
  obtain ⟨p, q, hA0, hV, rfl, hfz, hnd⟩ := hW
  have hA : DataW.TrodAll enc Try.prog W 0 (fun _ => true) true Try.f5.params.toList args.toList ds p := hA0
  rw [Try.params5] at hA hval
  obtain ⟨v0, v1, d0, d1, p0, p1, rfl, rfl, rfl, h0, h1⟩ := trodAll_two hA
  obtain ⟨rfl, rfl⟩ := trodVars_none hV
  obtain ⟨a0, len, cap, rfl⟩ := okWide_slice Try.underlying36 (hval 0 36 v0 rfl rfl)
  obtain ⟨n, rfl, rfl, rfl, w1⟩ := open_int Try.underlying3 (hval 1 3 v1 rfl rfl) h1
  clear hA0 hval0
  simp only [List.append_nil] at hW'
  have fin : Calls Try.prog 5 #[.slice a0 len cap, .int .i64 n] W fun e w' => e = .returned (.bool true) ∧ Below W.heap.size W w' := by
    obtain ⟨fuel, hf⟩ := h0
    rcases open_bools Try.underlying36 Try.underlying4 cells4 hf with ⟨hcs, _⟩ | ⟨a, len', cap', B, hcs, _, hl, _, _, hcell⟩
    · simp [Value.cells] at hcs
      obtain ⟨rfl, rfl, rfl⟩ := hcs
      exact walk none 0 0 (fun _ => false) n W (fun h => by omega)
    · simp [Value.cells] at hcs
      obtain ⟨rfl, rfl, rfl⟩ := hcs
      refine walk (some a) len cap B n W (fun h => ?_)
      obtain ⟨b, off, spot⟩ := a
      have hspot : spot = none := by simpa [Addr.add] using World.cell?_spot (hcell 0 (by omega))
      subst hspot
      refine ⟨b, off, rfl, fun j hj => ?_⟩
      have := hcell j (by omega)
      rw [Addr.add_lit] at this
      exact ⟨this, World.block_lt_of_cell? W _ this⟩
  refine fin.mono fun e W' ⟨he, hb⟩ => ?_
  subst he
  exact ⟨_, rfl, _, _, _, [], _, [], hW', (trodAll_cons_mk (shut_bool Try.underlying4 _) trodAll_mk0), (trodAll_cons_mk (Below.trod laid reads36 (by decide) h0 hb (fun x hx => hW'.lt x (by simpa using hx))) (trodAll_cons_mk (shut_int Try.underlying3 w1) trodAll_mk0)), rfl, hb.frame _, fun h => by cases h⟩

theorem over : Rows.trapNestsRow.holds Try.pinned (OpenSpec.ofChange Rows.trapNestsSpec) :=
  OpenClaim.holds_of_wide 5 Try.f5 rfl rfl rfl rfl rfl rfl rfl ⟨rfl, rfl, rfl, rfl, rfl⟩ rfl rfl rfl rfl rfl (by kernel_rfl) Try.func5 (by kernel_rfl)
    (of_decide_eq_true (by kernel_rfl)) (by unfold Func.isWrapper; first | (rw [if_pos (by decide +kernel)]; kernel_rfl) | (rw [if_neg (by decide +kernel)]; exact ⟨rfl, rfl⟩))
    (fun os started H enc _ => lifted os started H enc)

theorem proved : Rows.TrapNestsSaid :=
  over
end Go.Proofs.Ytnbkgpkgfolakaa.trapNests
namespace Go.Proofs.Ytnbkgpkgfolakaa
theorem trapNests_holds : Rows.TrapNestsSaid := trapNests.proved
#print axioms trapNests_holds
end Go.Proofs.Ytnbkgpkgfolakaa
