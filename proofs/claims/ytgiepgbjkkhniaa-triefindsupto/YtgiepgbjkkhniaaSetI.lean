/-
  A map of numbers to true that the call makes (a set).
-/
import Derived.Test.YtgiepgbjkkhniaaBase
import Derived.Maps.OwnOps
import Derived.Maps.Views
import Derived.BigFrame
namespace Go.Proofs.Ytgiepgbjkkhniaa
open Go.RowKit Go.PlainAid Go.Maps

theorem law3 : Keyed Try.prog 3 := int_keyed Try.underlying3
theorem zero4i (w : World) : (zeroValue 4).run Try.prog w = .ok (.bool false) w := by kernel_rfl
theorem plainElem_bool_invI {H : Type} {P : Program} {e : TypeId} (he : P.underlying e = some .bool) {v : Value} {z : DataW H × List MemPlace} (h : plainElem P e v = some z) : ∃ x, v = .bool x ∧ z = (.lit (.bool x), []) := by
  unfold plainElem at h
  rw [he] at h
  cases v <;> simp at h
  exact ⟨_, rfl, h.symm⟩
/-- block b is a map of numbers to true: those of N -/
def SetI (b n : Nat) (N : List Nat) (w : World) : Prop :=
  ∃ D : DataW Unit, w.ownsMap Try.prog 3 (plainElem Try.prog 4) b n D ∧ (∃ es, D = .map es) ∧ ∀ x : Nat, x ≤ 1000 → D.atKey (.int .i64 (x : Int)) (.lit (.bool false)) = .lit (.bool (decide (x ∈ N)))
theorem setI_new (w : World) : SetI w.heap.size 0 [] (w.alloc (.map #[] 0)) :=
  ⟨.map [], World.ownsMap_made _ _ _ _, ⟨_, rfl⟩, fun _ _ => rfl⟩
theorem SetI.drew {b n : Nat} {N : List Nat} {w : World} (h : SetI b n N w) : SetI b n N w.drew := by
  obtain ⟨D, h1, h2⟩ := h
  exact ⟨D, h1.drew, h2⟩
theorem wf_nat (x : Nat) (h : x ≤ 1000) : (Lit.int .i64 (x : Int)).wf = true := by
  simp [Lit.wf, IntKind.min, IntKind.max, IntKind.bits, IntKind.signed]
  omega
set_option maxRecDepth 100000 in
theorem wpList_setLookI {ops : Array Oper} {rest : List Oper} {o : Oper} {a : Act} {Q : Exit → Act → World → Prop} (w : World) (hg : Region.wanted o (yielded ops a.tmps) = true) (m x : Operand) (hop : o.op = Op.lookup 53 m x false)
    (b n : Nat) (N : List Nat) (hm : a.eval m = .map (some b)) (h : SetI b n N w) (s : Nat) (hx : a.eval x = .int .i64 (s : Int)) (hs : s ≤ 1000)
    (hK : wpList Try.prog ops Q rest (a.put o.dst (.bool (decide (s ∈ N)))) w) : wpList Try.prog ops Q (o :: rest) a w := by
  refine BigFrame.wpList_want hg fun K' hK' => ?_
  obtain ⟨D, h1, _, h3⟩ := h
  obtain ⟨v, ps, hrun, hv⟩ := h1.lookup law3 Try.underlying53 (zero4i w) (plainElem_bool Try.underlying4 false) (keyOf_int_mk Try.underlying3 (wf_nat s hs))
  obtain ⟨c, rfl, hc⟩ := plainElem_bool_invI Try.underlying4 hv
  rw [h3 s hs] at hc
  have hc : decide (s ∈ N) = c := by simp at hc; exact hc.1
  subst hc
  unfold Oper.wp
  simp [execOp, hop, hm, hx, hrun, Result.andThen]
  exact hK' _ _ (by simpa using hK)
set_option maxRecDepth 100000 in
theorem wpList_setPutI {ops : Array Oper} {rest : List Oper} {o : Oper} {a : Act} {Q : Exit → Act → World → Prop} (w : World) (hg : o.guard = none) (m x v : Operand) (hop : o.op = Op.mapUpdate 53 m x v)
    (b n : Nat) (N : List Nat) (hm : a.eval m = .map (some b)) (h : SetI b n N w) (s : Nat) (hx : a.eval x = .int .i64 (s : Int)) (hs : s ≤ 1000) (hv : a.eval v = .bool true) (hn : n < maxLen)
    (hK : ∀ w', SetI b (n + 1) (s :: N) w' → w.grownBy w' (some b) → wpList Try.prog ops Q rest (a.put o.dst undef) w') : wpList Try.prog ops Q (o :: rest) a w := by
  obtain ⟨D, h1, h2, h3⟩ := h
  refine wpList_mapUpdate_own w hg m x v 53 hop 3 4 law3 Try.underlying53 _ b n D hm h1 hn (.int .i64 (s : Int)) (.bool true) _ hx hv (keyOf_int_mk Try.underlying3 (wf_nat s hs)) _ [] (plainElem_bool Try.underlying4 true) ?_
  intro w' h4 h5
  refine hK w' ⟨_, h4, ?_, fun t ht => ?_⟩ h5
  · obtain ⟨es, rfl⟩ := h2
    exact ⟨_, rfl⟩
  · by_cases e : t = s
    · subst e
      rw [atKey_put_same h2 (by trivial)]
      simp
    · rw [atKey_put_other (by intro he; apply e; simp at he; omega), h3 t ht]
      simp [e]
end Go.Proofs.Ytgiepgbjkkhniaa
