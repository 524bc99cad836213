/-
  Proved: the second form of the law TrieFinds: for whatever numbers of patterns, raw patterns, numbers of a URL, texts and bool that hold together at most 1048576 values and letters it returns true: what is found, its parameters, how many there are and all that match are as the reference says; the arguments read as they did. Conditions: the bulk of the arguments, at most 1048576.
-/
import Derived.Test.YtgiepgbjkkhniaaRows
import Derived.Test.YtgiepgbjkkhniaaFindWalk
import Derived.Test.YtgiepgbjkkhniaaArgsZ
import Derived.ChangeMaps5
import Derived.Carry
import Derived.WalkKit
import Derived.ProofKit
import Derived.OpenShut
import Derived.JoinedCond
namespace Go.Proofs.Ytgiepgbjkkhniaa.trieFinds
open Go.ChangeShapes Go.WideShapes Go.ChangeAt Go.RowKit Go.ChangeMaps
set_option linter.unusedVariables false

theorem own : ownKnob Try.prog.godebug = none := by kernel_rfl

set_option maxRecDepth 100000 in
theorem contract (H : Type) (enc : TypeId × Value → H) (W : World) (base : Nat) (args : Array Value) (ds gs : List (DataW H)) (before : List MemPlace)
    (hval0 : ∀ (j : Nat) t v, Try.f4.params[j]? = some t → args[j]? = some v → Value.okWide Try.prog W .any base t v)
    (hW : DataW.Whole enc Try.prog Try.f4.params.toList Rows.trieFindsSpec.vars false W args.toList ds gs before) (hk : Rows.uptoSmall H (ds ++ gs) = true) :
    Calls Try.prog 4 args W fun e W' => ∃ v, e = .returned v ∧ Rows.trieFindsSpec.post enc Try.prog Try.f4 false true false false W args v W' := by
  have hval : ∀ (j : Nat) t v, Try.f4.params[j]? = some t → args[j]? = some v → Value.okWide Try.prog W .any base t v := hval0
  have hW' := hW
  obtain ⟨p, q, hA0, hV, rfl, hfz, hnd⟩ := hW
  have hA : DataW.TrodAll enc Try.prog W 0 (fun _ => true) true Try.f4.params.toList args.toList ds p := hA0
  rw [Try.params4] at hA hval
  obtain ⟨v0, vs0, d0, ds0, p0, q0, hargs, rfl, rfl, h0, r0⟩ := trodAll_cons hA
  obtain ⟨v1, vs1, d1, ds1, p1, q1, rfl, rfl, rfl, h1, r1⟩ := trodAll_cons r0
  obtain ⟨v2, vs2, d2, ds2, p2, q2, rfl, rfl, rfl, h2, r2⟩ := trodAll_cons r1
  obtain ⟨v3, vs3, d3, ds3, p3, q3, rfl, rfl, rfl, h3, r3⟩ := trodAll_cons r2
  obtain ⟨v4, vs4, d4, ds4, p4, q4, rfl, rfl, rfl, h4, r4⟩ := trodAll_cons r3
  obtain ⟨rfl, rfl, rfl⟩ := trodAll_nil r4
  obtain rfl : args = #[v0, v1, v2, v3, v4] := by cases args; simp_all
  obtain ⟨rfl, rfl⟩ := trodVars_none hV
  have hb := of_decide_eq_true hk
  have t1 : Rows.uptoBulk d1 ≤ 1048576 := Nat.le_trans (bulk_in (by simp)) hb
  have t3 : Rows.uptoBulk d3 ≤ 1048576 := Nat.le_trans (bulk_in (by simp)) hb
  obtain ⟨A1, n1, c1, hv0, k1⟩ := open_ks (hval 0 39 v0 rfl rfl) h0
  obtain ⟨raw, k2, hrl, hrs, hrz⟩ := open_rawB (hval 1 40 v1 rfl rfl) h1
  obtain ⟨B1, m1, e1, B2, m2, e2, B3, m3, e3, f1, f2, f3, hv2, k3, k4, k5⟩ := open_keep (hval 2 42 v2 rfl rfl) h2
  obtain ⟨P0, k6, hpl, hps⟩ := open_strsB (hval 3 30 v3 rfl rfl) h3
  obtain ⟨own_, rfl, rfl, rfl⟩ := open_bool Try.underlying4 (hval 4 4 v4 rfl rfl) h4
  clear hA0 hval0
  simp only [List.append_nil] at hW'
  have fin : Calls Try.prog 4 #[v0, v1, v2, v3, .bool own_] W fun e w' => e = .returned (.bool true) ∧ Below W.heap.size W w' := by
    rw [hv0, hv2]
    exact finds_any A1 n1 c1 v1 raw B1 B2 B3 m1 e1 m2 e2 m3 e3 f1 f2 f3 v3 P0 own_ W k1 k2 hrl hrs (fun l hl g hg => by have := hrz l hl g hg; omega) k3 k4 k5 k6 hpl (fun s hs => by have := hps s hs; omega)
  refine fin.mono fun e W' ⟨he, hb⟩ => ?_
  subst he
  exact ⟨_, rfl, _, _, _, [], _, [], hW', (trodAll_cons_mk (shut_bool Try.underlying4 _) trodAll_mk0), (trodAll_cons_mk (Below.trod laid reads39 (by decide) h0 hb (fun x hx => hW'.lt x (by simp [hx]))) (trodAll_cons_mk (Below.trod laid reads40 (by decide) h1 hb (fun x hx => hW'.lt x (by simp [hx]))) (trodAll_cons_mk (Below.trod laid reads42 (by decide) h2 hb (fun x hx => hW'.lt x (by simp [hx]))) (trodAll_cons_mk (Below.trod laid reads30 (by decide) h3 hb (fun x hx => hW'.lt x (by simp [hx]))) (trodAll_cons_mk (shut_bool Try.underlying4 _) trodAll_mk0))))), rfl, hb.frame _, fun h => by cases h⟩

set_option maxRecDepth 100000 in
theorem lifted (os : Os) (started : os.Started) (H : Type) (enc : TypeId × Value → H) (F : Stop.Interp) :
    ReturnsInHanded {} Try.checked os 4 .any ((Rows.OpenSpec.upto Rows.trieFindsSpec).pre6 enc Try.prog Try.f4 Rows.trieFindsUptoRow.domain false) (((Rows.OpenSpec.upto Rows.trieFindsSpec).at F).post enc Try.prog Try.f4 false true false false) := by
  refine returnsInHanded_of_cond (C := Try.checked) (s := Rows.OpenSpec.upto Rows.trieFindsSpec) (k := Rows.uptoSmall) rfl own started (by kernel_rfl) Try.func4
    (OpenSpec.witness (enc := enc) (C := Try.checked) (s := Rows.OpenSpec.upto Rows.trieFindsSpec) (k := Rows.uptoSmall) rfl false ⟨#[], #[.slice none 0 0, .slice none 0 0, .agg #[.slice none 0 0, .slice none 0 0, .slice none 0 0], .slice none 0 0, .bool false], []⟩ 8 (by kernel_rfl) (by kernel_rfl) (by kernel_rfl)
      (x := ([.nil, .nil, .agg [.nil, .nil, .nil], .nil, .lit (.bool false)], [], [])) (by kernel_rfl) rfl (by kernel_rfl)) ?_
  intro W base args ds gs before hval hW _ hk _
  exact contract H enc W base args ds gs before hval hW hk

theorem over : Rows.trieFindsUptoRow.holds Try.pinned (Rows.OpenSpec.upto Rows.trieFindsSpec) :=
  OpenClaim.holds_of_cond 4 Try.f4 rfl rfl rfl rfl rfl rfl rfl ⟨rfl, rfl, rfl, rfl, rfl⟩ rfl rfl rfl rfl rfl (by kernel_rfl) Try.func4 (by kernel_rfl)
    (of_decide_eq_true (by kernel_rfl)) (by unfold Func.isWrapper; first | (rw [if_pos (by decide +kernel)]; kernel_rfl) | (rw [if_neg (by decide +kernel)]; exact ⟨rfl, rfl⟩))
    (fun os started H enc _ F => lifted os started H enc F)

theorem proved : Rows.TrieFindsUptoSaid :=
  over
end Go.Proofs.Ytgiepgbjkkhniaa.trieFinds
namespace Go.Proofs.Ytgiepgbjkkhniaa
theorem trieFindsUpto_holds : Rows.TrieFindsUptoSaid := trieFinds.proved
#print axioms trieFindsUpto_holds
end Go.Proofs.Ytgiepgbjkkhniaa
