/-
  Trees as plain data: how many nodes, how deep, outlets; which are right; what is printed. No program.
-/
import Derived.Test.YtolklphenllhpaaTrr
namespace Go.Proofs.Ytolklphenllhpaa
open Go.PlainAid
set_option maxRecDepth 100000

def Tr.tag : Tr → Tx | .mk g _ _ _ _ => g
def Tr.key : Tr → Tx | .mk _ k _ _ _ => k
def Tr.text : Tr → Tx | .mk _ _ x _ _ => x
def Tr.attrs : Tr → List Pr | .mk _ _ _ a _ => a
def Tr.kids : Tr → List Tr | .mk _ _ _ _ ks => ks
theorem Tr.eta (t : Tr) : t = .mk t.tag t.key t.text t.attrs t.kids := by cases t; rfl
def outT : Tx := ⟨#[111, 117, 116, 108, 101, 116]⟩
mutual
def Tr.cnt : Tr → Nat
  | .mk _ _ _ _ ks => 1 + cntL ks
def cntL : List Tr → Nat
  | [] => 0
  | t :: ts => t.cnt + cntL ts
end
mutual
def Tr.dep : Tr → Nat
  | .mk _ _ _ _ ks => 1 + depL ks
def depL : List Tr → Nat
  | [] => 0
  | t :: ts => max t.dep (depL ts)
end
mutual
def Tr.slt : Tr → Nat
  | .mk g _ _ _ ks => (if g = outT then 1 else 0) + sltL ks
def sltL : List Tr → Nat
  | [] => 0
  | t :: ts => t.slt + sltL ts
end
mutual
def Tr.all (P : Tr → Prop) : Tr → Prop
  | .mk g k x a ks => P (.mk g k x a ks) ∧ allL P ks
def allL (P : Tr → Prop) : List Tr → Prop
  | [] => True
  | t :: ts => t.all P ∧ allL P ts
end
theorem allL_iff (P : Tr → Prop) (ts : List Tr) : allL P ts ↔ ∀ t ∈ ts, t.all P := by
  induction ts with
  | nil => simp [allL]
  | cons t ts ih => simp [allL, ih]
theorem all_iff (P : Tr → Prop) (t : Tr) : t.all P ↔ P t ∧ ∀ k ∈ t.kids, k.all P := by
  cases t with
  | mk g k x a ks =>
    show (P _ ∧ allL P ks) ↔ _
    rw [allL_iff]; try rfl
theorem all_mk {P : Tr → Prop} {g k x : Tx} {a : List Pr} {ks : List Tr} (h : (Tr.mk g k x a ks).all P) : P (.mk g k x a ks) ∧ ∀ j, j < ks.length → (ks.getD j tr0).all P := by
  rw [all_iff] at h
  exact ⟨h.1, fun j hj => h.2 _ (by simp [Tr.kids, List.getD, hj])⟩
theorem cnt_mk (g k x : Tx) (a : List Pr) (ks : List Tr) : (Tr.mk g k x a ks).cnt = 1 + cntL ks := by rw [Tr.cnt]
theorem dep_mk (g k x : Tx) (a : List Pr) (ks : List Tr) : (Tr.mk g k x a ks).dep = 1 + depL ks := by rw [Tr.dep]
theorem slt_mk (g k x : Tx) (a : List Pr) (ks : List Tr) : (Tr.mk g k x a ks).slt = (if g = outT then 1 else 0) + sltL ks := by rw [Tr.slt]
theorem cntL_app (a b : List Tr) : cntL (a ++ b) = cntL a + cntL b := by
  induction a with
  | nil => simp [cntL]
  | cons t ts ih => simp [cntL, ih]; omega
theorem depL_app (a b : List Tr) : depL (a ++ b) = max (depL a) (depL b) := by
  induction a with
  | nil => simp [depL]
  | cons t ts ih => simp [depL, ih, Nat.max_assoc]
theorem sltL_app (a b : List Tr) : sltL (a ++ b) = sltL a + sltL b := by
  induction a with
  | nil => simp [sltL]
  | cons t ts ih => simp [sltL, ih]; omega
theorem take_next (ks : List Tr) (j : Nat) (h : j < ks.length) : ks.take (j + 1) = ks.take j ++ [ks.getD j tr0] := by
  rw [List.take_add_one]
  simp [List.getD, h]
theorem cnt_next (ks : List Tr) (j : Nat) (h : j < ks.length) : cntL (ks.take (j + 1)) = cntL (ks.take j) + (ks.getD j tr0).cnt := by
  rw [take_next ks j h, cntL_app]; simp [cntL]
theorem dep_next (ks : List Tr) (j : Nat) (h : j < ks.length) : depL (ks.take (j + 1)) = max (depL (ks.take j)) (ks.getD j tr0).dep := by
  rw [take_next ks j h, depL_app]; simp [depL]
theorem slt_next (ks : List Tr) (j : Nat) (h : j < ks.length) : sltL (ks.take (j + 1)) = sltL (ks.take j) + (ks.getD j tr0).slt := by
  rw [take_next ks j h, sltL_app]; simp [sltL]
theorem cntL_take (ks : List Tr) (j : Nat) : cntL (ks.take j) ≤ cntL ks := by
  have := cntL_app (ks.take j) (ks.drop j)
  rw [List.take_append_drop] at this
  omega
theorem kid_cnt (ks : List Tr) (j : Nat) (h : j < ks.length) : (ks.getD j tr0).cnt ≤ cntL ks := by
  have h1 := cnt_next ks j h
  have h2 := cntL_take ks (j + 1)
  omega
theorem cnt_pos (t : Tr) : 1 ≤ t.cnt := by cases t; rw [cnt_mk]; omega
mutual
theorem dep_cnt : ∀ t : Tr, t.dep ≤ t.cnt
  | .mk g k x a ks => by rw [dep_mk, cnt_mk]; have := depL_cnt ks; omega
theorem depL_cnt : ∀ ks : List Tr, depL ks ≤ cntL ks
  | [] => by simp [depL]
  | t :: ts => by have := dep_cnt t; have := depL_cnt ts; rw [depL, cntL]; omega
end
mutual
theorem slt_cnt : ∀ t : Tr, t.slt ≤ t.cnt
  | .mk g k x a ks => by rw [slt_mk, cnt_mk]; have := sltL_cnt ks; split <;> omega
theorem sltL_cnt : ∀ ks : List Tr, sltL ks ≤ cntL ks
  | [] => by simp [sltL]
  | t :: ts => by have := slt_cnt t; have := sltL_cnt ts; rw [sltL, cntL]; omega
end
theorem kids_cnt (ks : List Tr) : ks.length ≤ cntL ks := by
  induction ks with
  | nil => simp
  | cons t ts ih => rw [cntL, List.length_cons]; have := cnt_pos t; omega
theorem dep_take (ks : List Tr) (j : Nat) : depL (ks.take j) ≤ cntL ks := Nat.le_trans (depL_cnt _) (cntL_take ks j)
theorem slt_take (ks : List Tr) (j : Nat) : sltL (ks.take j) ≤ cntL ks := Nat.le_trans (sltL_cnt _) (cntL_take ks j)

/-- small letters and digits -/
def tcB (c : Int) : Bool := decide ((97 ≤ c ∧ c ≤ 122) ∨ (48 ≤ c ∧ c ≤ 57))
def tagB (g : Tx) : Bool := decide (g.size ≤ 16) && (bs g).all tcB
def atB (a : List Pr) : Bool := a.all (fun p => decide (1 ≤ p.1.size ∧ p.1.size ≤ 64 ∧ p.2.size ≤ 64)) && decide ((a.map Prod.fst).Nodup)
/-- a node by itself -/
def rn : Tr → Bool
  | .mk g k x a ks => if g.size = 0 then decide (k.size = 0 ∧ a.length = 0 ∧ ks.length = 0 ∧ x.size ≤ 64) else tagB g && decide (k.size ≤ 64) && decide (x.size = 0) && atB a && decide (ks.length ≤ 24)
def rgL (f : Tr → Nat → Bool × Nat) : List Tr → Nat → Bool × Nat
  | [], l => (true, l)
  | t :: ts, l => if (f t l).1 = true then rgL f ts (f t l).2 else (false, (f t l).2)
/-- within so many deep, with so many left -/
def rg : Nat → Tr → Nat → Bool × Nat
  | 0, _, l => (false, l)
  | d + 1, t, l => if l = 0 ∨ rn t = false then (false, l) else rgL (rg d) t.kids (l - 1)
theorem rgL_yes {f : Tr → Nat → Bool × Nat} {t : Tr} {ts : List Tr} {l : Nat} (h : (f t l).1 = true) : rgL f (t :: ts) l = rgL f ts (f t l).2 := by rw [rgL, if_pos h]
theorem rgL_no {f : Tr → Nat → Bool × Nat} {t : Tr} {ts : List Tr} {l : Nat} (h : (f t l).1 = false) : rgL f (t :: ts) l = f t l := by
  rw [rgL, if_neg (by rw [h]; decide)]
  exact Prod.ext h.symm rfl
theorem rgL_app_yes (f : Tr → Nat → Bool × Nat) (a b : List Tr) (l : Nat) (h : (rgL f a l).1 = true) : rgL f (a ++ b) l = rgL f b (rgL f a l).2 := by
  induction a generalizing l with
  | nil => rfl
  | cons t ts ih =>
    rw [List.cons_append]
    cases e : (f t l).1 with
    | true => rw [rgL_yes e] at h; rw [rgL_yes e, rgL_yes e, ih _ h]
    | false => rw [rgL_no e, e] at h; cases h
theorem rgL_app_no (f : Tr → Nat → Bool × Nat) (a b : List Tr) (l : Nat) (h : (rgL f a l).1 = false) : rgL f (a ++ b) l = rgL f a l := by
  induction a generalizing l with
  | nil => simp [rgL] at h
  | cons t ts ih =>
    rw [List.cons_append]
    cases e : (f t l).1 with
    | true => rw [rgL_yes e] at h; rw [rgL_yes e, rgL_yes e, ih _ h]
    | false => rw [rgL_no e, rgL_no e]
theorem rg_next (f : Tr → Nat → Bool × Nat) (ks : List Tr) (j l m : Nat) (h : j < ks.length) (hj : rgL f (ks.take j) l = (true, m)) : rgL f (ks.take (j + 1)) l = f (ks.getD j tr0) m := by
  rw [take_next ks j h, rgL_app_yes f _ _ _ (by rw [hj]), hj]
  show rgL f [ks.getD j tr0] m = _
  cases e : (f (ks.getD j tr0) m).1 with
  | true => rw [rgL_yes e]; exact Prod.ext e.symm rfl
  | false => exact rgL_no e
theorem rg_stop (f : Tr → Nat → Bool × Nat) (ks : List Tr) (j l : Nat) (h : (rgL f (ks.take j) l).1 = false) : rgL f ks l = rgL f (ks.take j) l := by
  conv => lhs; rw [← List.take_append_drop j ks]
  exact rgL_app_no f _ _ _ h
theorem rgL_le (f : Tr → Nat → Bool × Nat) (hf : ∀ t l, (f t l).2 ≤ l) (ks : List Tr) (l : Nat) : (rgL f ks l).2 ≤ l := by
  induction ks generalizing l with
  | nil => simp [rgL]
  | cons t ts ih =>
    have h1 := hf t l
    have h2 := ih (f t l).2
    cases e : (f t l).1 with
    | true => rw [rgL_yes e]; omega
    | false => rw [rgL_no e]; exact h1
theorem rg_le (d : Nat) : ∀ t l, (rg d t l).2 ≤ l := by
  induction d with
  | zero => intro t l; simp [rg]
  | succ d ih =>
    intro t l
    rw [rg]
    split
    · simp
    · have := rgL_le (rg d) ih t.kids (l - 1)
      omega
/-- what is right is right -/
theorem rg_yes (d : Nat) : ∀ (t : Tr) (l : Nat), t.all (fun x => rn x = true) → t.dep ≤ d → t.cnt ≤ l → rg d t l = (true, l - t.cnt) := by
  induction d with
  | zero => intro t l _ h _; cases t; rw [dep_mk] at h; omega
  | succ d ih =>
    intro t l ha hd hc
    have hL : ∀ (ks : List Tr) (l : Nat), (∀ k ∈ ks, k.all (fun x => rn x = true)) → depL ks ≤ d → cntL ks ≤ l → rgL (rg d) ks l = (true, l - cntL ks) := by
      intro ks
      induction ks with
      | nil => intro l _ _ _; simp [rgL, cntL]
      | cons k ks ihk =>
        intro l h1 h2 h3
        rw [depL] at h2
        rw [cntL] at h3
        have e := ih k l (h1 k (by simp)) (by omega) (by omega)
        rw [rgL_yes (by rw [e]), e]
        show rgL _ _ (l - k.cnt) = _
        rw [ihk (l - k.cnt) (fun x hx => h1 x (by simp [hx])) (by omega) (by omega), cntL]
        congr 1
        omega
    rw [all_iff] at ha
    have hp := cnt_pos t
    rw [rg, if_neg (by rw [ha.1]; simp; omega)]
    cases t with
    | mk g k x a ks =>
      rw [dep_mk] at hd
      rw [cnt_mk] at hc ⊢
      rw [hL _ _ ha.2 (by show depL ks ≤ d; omega) (by show cntL ks ≤ l - 1; omega)]
      show (true, l - 1 - cntL ks) = _
      congr 1
      omega
/-- only what is within the limits is right -/
theorem rg_true (d : Nat) : ∀ (t : Tr) (l : Nat), (rg d t l).1 = true → rn t = true ∧ t.dep ≤ d ∧ t.cnt ≤ l ∧ (rg d t l).2 + t.cnt = l := by
  induction d with
  | zero => intro t l h; simp [rg] at h
  | succ d ih =>
    intro t l h
    have hL : ∀ (ks : List Tr) (l : Nat), (rgL (rg d) ks l).1 = true → depL ks ≤ d ∧ cntL ks ≤ l ∧ (rgL (rg d) ks l).2 + cntL ks = l := by
      intro ks
      induction ks with
      | nil => intro l _; simp [rgL, cntL, depL]
      | cons k ks ihk =>
        intro l h
        cases hk : (rg d k l).1 with
        | true =>
          rw [rgL_yes hk] at h ⊢
          have h1 := ih k l hk
          have h2 := ihk _ h
          rw [depL, cntL]
          omega
        | false => rw [rgL_no hk, hk] at h; cases h
    rw [rg] at h ⊢
    by_cases hc : l = 0 ∨ rn t = false
    · rw [if_pos hc] at h; cases h
    · rw [if_neg hc] at h ⊢
      have h1 := hL _ _ h
      cases t with
      | mk g k x a ks =>
        rw [dep_mk, cnt_mk]
        simp only [Tr.kids] at h1 ⊢
        refine ⟨by simpa using fun e => hc (Or.inr e), by omega, by omega, by omega⟩
theorem rg_bad {d : Nat} {t : Tr} {l : Nat} (h : rn t = false ∨ d < t.dep ∨ l < t.cnt) : (rg d t l).1 = false := by
  cases e : (rg d t l).1 with
  | false => rfl
  | true =>
    have := rg_true d t l e
    rcases h with h | h | h
    · rw [h] at this; cases this.1
    · omega
    · omega

/-- a text in quotes -/
def escL (c : Int) : List Int := if c = 34 ∨ c = 92 then [92, c] else [c]
def qtL (s : Tx) : List Int := 34 :: ((bs s).flatMap escL ++ [34])
def atL (p : Pr) : List Int := 32 :: (qtL p.1 ++ 61 :: qtL p.2)
def hdL (g k : Tx) (a : List Pr) : List Int := 60 :: (bs g ++ ((if k.size = 0 then [] else 35 :: qtL k) ++ (a.flatMap atL ++ [62])))
mutual
def prt : Tr → List Int
  | .mk g k x a ks => if g.size = 0 then qtL x else hdL g k a ++ prtL ks ++ [60, 47, 62]
def prtL : List Tr → List Int
  | [] => []
  | t :: ts => prt t ++ prtL ts
end
theorem prt_mk (g k x : Tx) (a : List Pr) (ks : List Tr) : prt (.mk g k x a ks) = if g.size = 0 then qtL x else hdL g k a ++ prtL ks ++ [60, 47, 62] := by rw [prt]
theorem prtL_app (a b : List Tr) : prtL (a ++ b) = prtL a ++ prtL b := by
  induction a with
  | nil => simp [prtL]
  | cons t ts ih => simp [prtL, ih]
theorem prt_next (ks : List Tr) (j : Nat) (h : j < ks.length) : prtL (ks.take (j + 1)) = prtL (ks.take j) ++ prt (ks.getD j tr0) := by
  rw [take_next ks j h, prtL_app]; simp [prtL]
theorem prtL_take (ks : List Tr) (j : Nat) : (prtL (ks.take j)).length ≤ (prtL ks).length := by
  have := congrArg List.length (prtL_app (ks.take j) (ks.drop j))
  rw [List.take_append_drop, List.length_append] at this
  omega
end Go.Proofs.Ytolklphenllhpaa
