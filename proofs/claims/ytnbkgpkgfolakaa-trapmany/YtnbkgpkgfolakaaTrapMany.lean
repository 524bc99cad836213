/-
  Proved: the law TrapMany returns true for any list of bools and any text: of checks in a row the first that isn't so is thrown, with its own place, those ahead are passed, and those behind aren't asked; the arguments read as they did. Conditions: none.
-/
import Derived.Test.YtnbkgpkgfolakaaRows
import Derived.Test.YtnbkgpkgfolakaaMany
import Derived.Deep.Grids
import Derived.WideKeyArgs
import Derived.ChangeMaps5
import Derived.Carry
import Derived.WalkKit
import Derived.ProofKit
import Derived.OpenShut
namespace Go.Proofs.Ytnbkgpkgfolakaa.trapMany
open Go.ChangeShapes Go.WideShapes Go.ChangeAt Go.RowKit Go.ChangeMaps Go.Deep
set_option linter.unusedVariables false

theorem own : ownKnob Try.prog.godebug = none := by kernel_rfl

theorem cells4 : Try.prog.cellsOf 4 = 1 := by kernel_rfl
theorem laid : laidOutB Try.prog = true := by kernel_rfl
theorem reads36 : Try.prog.readableRec 36 = true := by kernel_rfl

/-- the first that isn't so, if there is one -/
theorem first_false (f : Nat → Bool) (m : Nat) : (∀ j, j < m → f j = true) ∨ ∃ p, p < m ∧ f p = false ∧ ∀ j, j < p → f j = true := by
  induction m with
  | zero => exact Or.inl (fun j hj => by omega)
  | succ m ih =>
    rcases ih with h | ⟨p, h1, h2, h3⟩
    · cases hf : f m with
      | true => exact Or.inl (fun j hj => by
          by_cases e : j = m
          · rw [e]; exact hf
          · exact h j (by omega))
      | false => exact Or.inr ⟨m, by omega, hf, h⟩
    · exact Or.inr ⟨p, by omega, h2, h3⟩

theorem walk (ao : Option Addr) (len cap : Nat) (f : Nat → Bool) (note : ByteArray) (w : World) (hb : BoolsAt ao len f w) :
    Calls Try.prog 6 #[.slice ao len cap, .string note] w fun e w' => e = .returned (.bool true) ∧ Below w.heap.size w w' := by
  rcases first_false f (min len 20) with h | ⟨p, h1, h2, h3⟩
  · refine many_ret ao len cap (min note.size 9) (min len 20) note _ f w ?_ (by omega) (by omega) rfl hb rfl h ?_
    · split <;> omega
    · split <;> omega
  · refine many_thrown ao len cap (min note.size 9) p (min len 20) note _ f w ?_ (by omega) (by omega) rfl hb h1 h3 h2 rfl
    split <;> omega

set_option maxRecDepth 100000 in
theorem lifted (os : Os) (started : os.Started) (H : Type) (enc : TypeId × Value → H) :
    ReturnsInHanded {} Try.checked os 6 .any (Rows.trapManySpec.pre6 enc Try.prog Try.f6 Rows.trapManyRow.domain false) (Rows.trapManySpec.post enc Try.prog Try.f6 false true false false) := by
  refine returnsInHanded_of_change (C := Try.checked) own started (by kernel_rfl) Try.func6
    (ChangeSpec.witness6 (enc := enc) (C := Try.checked) false ⟨#[], #[.slice none 0 0, .string ⟨#[]⟩], []⟩ 8 (by kernel_rfl) (by kernel_rfl) (by kernel_rfl) (by kernel_rfl)) ?_
  intro W base args ds gs before hval0 hW hcnd _
  have hval : ∀ (j : Nat) t v, Try.f6.params[j]? = some t → args[j]? = some v → Value.okWide Try.prog W .any base t v := hval0
  have hW' := hW
  obtain ⟨p, q, hA0, hV, rfl, hfz, hnd⟩ := hW
  have hA : DataW.TrodAll enc Try.prog W 0 (fun _ => true) true Try.f6.params.toList args.toList ds p := hA0
  rw [Try.params6] at hA hval
  obtain ⟨v0, v1, d0, d1, p0, p1, rfl, rfl, rfl, h0, h1⟩ := trodAll_two hA
  obtain ⟨rfl, rfl⟩ := trodVars_none hV
  obtain ⟨a0, len, cap, rfl⟩ := okWide_slice Try.underlying36 (hval 0 36 v0 rfl rfl)
  obtain ⟨note, rfl, rfl, rfl, w1⟩ := open_string Try.underlying9 (hval 1 9 v1 rfl rfl) h1
  clear hA0 hval0
  simp only [List.append_nil] at hW'
  have fin : Calls Try.prog 6 #[.slice a0 len cap, .string note] W fun e w' => e = .returned (.bool true) ∧ Below W.heap.size W w' := by
    obtain ⟨fuel, hf⟩ := h0
    rcases open_bools Try.underlying36 Try.underlying4 cells4 hf with ⟨hcs, _⟩ | ⟨a, len', cap', B, hcs, _, hl, _, _, hcell⟩
    · simp [Value.cells] at hcs
      obtain ⟨rfl, rfl, rfl⟩ := hcs
      exact walk none 0 0 (fun _ => false) note W (fun h => by omega)
    · simp [Value.cells] at hcs
      obtain ⟨rfl, rfl, rfl⟩ := hcs
      refine walk (some a) len cap B note W (fun h => ?_)
      obtain ⟨b, off, spot⟩ := a
      have hspot : spot = none := by simpa [Addr.add] using World.cell?_spot (hcell 0 (by omega))
      subst hspot
      refine ⟨b, off, rfl, fun j hj => ?_⟩
      have := hcell j (by omega)
      rw [Addr.add_lit] at this
      exact ⟨this, World.block_lt_of_cell? W _ this⟩
  refine fin.mono fun e W' ⟨he, hb⟩ => ?_
  subst he
  exact ⟨_, rfl, _, _, _, [], _, [], hW', (trodAll_cons_mk (shut_bool Try.underlying4 _) trodAll_mk0), (trodAll_cons_mk (Below.trod laid reads36 (by decide) h0 hb (fun x hx => hW'.lt x (by simpa using hx))) (trodAll_cons_mk (shut_string Try.underlying9 w1) trodAll_mk0)), rfl, hb.frame _, fun h => by cases h⟩

theorem over : Rows.trapManyRow.holds Try.pinned (OpenSpec.ofChange Rows.trapManySpec) :=
  OpenClaim.holds_of_wide 6 Try.f6 rfl rfl rfl rfl rfl rfl rfl ⟨rfl, rfl, rfl, rfl, rfl⟩ rfl rfl rfl rfl rfl (by kernel_rfl) Try.func6 (by kernel_rfl)
    (of_decide_eq_true (by kernel_rfl)) (by unfold Func.isWrapper; first | (rw [if_pos (by decide +kernel)]; kernel_rfl) | (rw [if_neg (by decide +kernel)]; exact ⟨rfl, rfl⟩))
    (fun os started H enc _ => lifted os started H enc)

theorem proved : Rows.TrapManySaid :=
  over
end Go.Proofs.Ytnbkgpkgfolakaa.trapMany
namespace Go.Proofs.Ytnbkgpkgfolakaa
theorem trapMany_holds : Rows.TrapManySaid := trapMany.proved
#print axioms trapMany_holds
end Go.Proofs.Ytnbkgpkgfolakaa
