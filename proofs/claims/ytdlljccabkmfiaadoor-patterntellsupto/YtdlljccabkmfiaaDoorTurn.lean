/-
  Parts of a slice of pairs; append(v, x...) of pairs in a drawn region.
-/
import Derived.Test.YtdlljccabkmfiaaDoorApp
namespace Go.Proofs.YtdlljccabkmfiaaDoor
open Go.RowKit Go.PlainAid

theorem Ps.take {w : World} {A : Option Addr} {n c : Nat} {l : List Pr} (h : Ps w (.slice A n c) l) (k : Nat) (hk : k ≤ l.length) : Ps w (.slice A k c) (l.take k) := by
  obtain ⟨A', cap, e, h1, h2, h3⟩ := h
  simp only [Value.slice.injEq] at e
  obtain ⟨rfl, _, rfl⟩ := e
  have hl : (l.take k).length = k := by simp; omega
  refine ⟨A, c, by rw [hl], by omega, h2, fun i hi => ?_⟩
  obtain ⟨b, o, ha, h4, h5⟩ := h3 i (by omega)
  have e : (l.take k).getD i default = l.getD i default := by
    simp only [List.getD]
    rw [List.getElem?_take_of_lt (by omega)]
  rw [e]
  exact ⟨b, o, ha, h4, h5⟩
theorem Ps.rest {w : World} {A : Option Addr} {n c : Nat} {l : List Pr} (h : Ps w (.slice A n c) l) (k : Nat) (hk : k ≤ l.length) : Ps w (.slice (if c = k then A else Option.map (fun x => x.add (k * 2)) A) (l.length - k) (c - k)) (l.drop k) := by
  obtain ⟨A', cap, e, h1, h2, h3⟩ := h
  simp only [Value.slice.injEq] at e
  obtain ⟨rfl, _, rfl⟩ := e
  have hl : (l.drop k).length = l.length - k := by simp
  refine ⟨_, c - k, by rw [hl], by rw [hl]; omega, ?_, fun i hi => ?_⟩
  · intro hA
    split at hA
    · rename_i e; omega
    · rw [Option.map_eq_none_iff] at hA
      have := h2 hA
      omega
  · rw [hl] at hi
    obtain ⟨b, o, ha, h4, h5⟩ := h3 (k + i) (by omega)
    subst ha
    refine ⟨b, o + k * 2, ?_, ?_, ?_⟩
    · rw [if_neg (by omega), Option.map_some, Addr.add_lit]
    · have e : (l.drop k).getD i default = l.getD (k + i) default := by simp [List.getD]
      rw [e, show o + k * 2 + i * 2 = o + (k + i) * 2 by omega]
      exact h4
    · have e : (l.drop k).getD i default = l.getD (k + i) default := by simp [List.getD]
      rw [e, show o + k * 2 + i * 2 + 1 = o + (k + i) * 2 + 1 by omega]
      exact h5
theorem step_appPs {ops : Array Oper} {o : Oper} {a : Act} {K : Act → World → Prop} {Q : Exit → Act → World → Prop} {F : Prop} (w : World) (hw : Region.wanted o (yielded ops a.tmps) = true) (s x : Operand)
    (ho : o.op = .call { callee := .builtin .append, args := #[s, x], argTypes := #[25, 25] })
    (B : Nat) (w0 : World) (v : Value) (xs : List Pr) (hs : a.eval s = v) (hown : OwnP B w0 v xs w) (hl : xs.length ≤ 1000000000)
    (A : Option Addr) (m c : Nat) (ys : List Pr) (hx : a.eval x = .slice A m c) (hss : Ps w (.slice A m c) ys) (hm1 : ys.length ≤ 10)
    (h : ∀ v' w', OwnP B w0 v' (xs ++ ys) w' → w.grownBy w' v.ownBlock → K (a.put o.dst v') w') :
    if Region.wanted o (yielded ops a.tmps) = true then Oper.wp Tryd.prog o a w K Q else F := by
  rw [if_pos hw]
  exact wp_appPs w s x ho B w0 v xs hs hown hl A m c ys hx hss hm1 h
end Go.Proofs.YtdlljccabkmfiaaDoor
