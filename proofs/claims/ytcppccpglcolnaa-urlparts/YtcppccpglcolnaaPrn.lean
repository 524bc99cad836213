/-
  The text of a URL. No program.
-/
import Derived.Test.YtcppccpglcolnaaRight
namespace Go.Proofs.Ytcppccpglcolnaa
open Go.PlainAid

def segL (s : ByteArray) : List Int := 47 :: encL (bs s)
def pathL (p : List ByteArray) : List Int := p.flatMap segL
def prL (mk : Int) (x : Pr) : List Int := mk :: (encL (bs x.1) ++ 61 :: encL (bs x.2))
def qryL : List Pr → List Int
  | [] => []
  | x :: r => prL 63 x ++ r.flatMap (prL 38)
def headL (p : List ByteArray) : List Int := if p = [] then [47] else pathL p
def urlL (p : List ByteArray) (q : List Pr) : List Int := headL p ++ qryL q
def prnS (p : List ByteArray) (q : List Pr) : ByteArray := if rightB p q then st (urlL p q) else ⟨#[]⟩
def mkI (k : Nat) : Int := if k = 0 then 63 else 38

theorem bs_enc (s : ByteArray) : bs (encS s) = encL (bs s) := by rw [encS, bs_st (encL_inR (bs_inR s))]
theorem encS_size (s : ByteArray) : (encS s).size ≤ 3 * s.size := by
  rw [← bs_len, bs_enc]
  have := encL_len (bs s)
  rw [bs_len] at this
  exact this
theorem path_next (p : List ByteArray) (k : Nat) (h : k < p.length) : pathL (p.take (k + 1)) = pathL (p.take k) ++ [47] ++ bs (encS (p.getD k default)) := by
  have e : p.take (k + 1) = p.take k ++ [p.getD k default] := by
    rw [List.take_add_one]
    simp only [List.getD, List.getElem?_eq_getElem h, Option.toList_some, Option.getD_some]
  rw [e, pathL, List.flatMap_append, bs_enc]
  simp [segL, pathL]
theorem qry_next (q : List Pr) (k : Nat) (h : k < q.length) : qryL (q.take (k + 1)) = qryL (q.take k) ++ [mkI k] ++ bs (encS (q.getD k default).1) ++ [61] ++ bs (encS (q.getD k default).2) := by
  have e : q.take (k + 1) = q.take k ++ [q.getD k default] := by
    rw [List.take_add_one]
    simp only [List.getD, List.getElem?_eq_getElem h, Option.toList_some, Option.getD_some]
  rw [e, bs_enc, bs_enc]
  match q, k, h with
  | x :: r, 0, _ => simp [qryL, prL, mkI]
  | x :: r, k + 1, _ => simp [qryL, prL, mkI]
theorem path_len (l : List ByteArray) (h : ∀ s ∈ l, s.size ≤ 64) : (pathL l).length ≤ 193 * l.length := by
  induction l with
  | nil => simp [pathL]
  | cons s l ih =>
    have h1 := ih (fun x hx => h x (by simp [hx]))
    have h2 := h s (by simp)
    have h3 := encL_len (bs s)
    rw [bs_len] at h3
    have e : pathL (s :: l) = segL s ++ pathL l := rfl
    rw [e, List.length_append, segL, List.length_cons, List.length_cons]
    omega
theorem prL_len (m : Int) (x : Pr) (h : x.1.size ≤ 64 ∧ x.2.size ≤ 64) : (prL m x).length ≤ 386 := by
  have h3 := encL_len (bs x.1)
  have h4 := encL_len (bs x.2)
  rw [bs_len] at h3 h4
  rw [prL, List.length_cons, List.length_append, List.length_cons]
  omega
theorem qry_len (l : List Pr) (h : ∀ x ∈ l, x.1.size ≤ 64 ∧ x.2.size ≤ 64) : (qryL l).length ≤ 386 * l.length := by
  have key : ∀ r : List Pr, (∀ x ∈ r, x.1.size ≤ 64 ∧ x.2.size ≤ 64) → (r.flatMap (prL 38)).length ≤ 386 * r.length := by
    intro r
    induction r with
    | nil => simp
    | cons x r ih =>
      intro h
      have h1 := ih (fun y hy => h y (by simp [hy]))
      have h2 := prL_len 38 x (h x (by simp))
      rw [List.flatMap_cons, List.length_append, List.length_cons]
      omega
  match l, h with
  | [], _ => simp [qryL]
  | x :: r, h =>
    have h1 := key r (fun y hy => h y (by simp [hy]))
    have h2 := prL_len 63 x (h x (by simp))
    rw [qryL, List.length_append, List.length_cons]
    omega
/-- what is right is small -/
theorem right_small {p : List ByteArray} {q : List Pr} (h : rightB p q = true) : p.length ≤ 8 ∧ q.length ≤ 8 ∧ (∀ s ∈ p, 1 ≤ s.size ∧ s.size ≤ 64) ∧ (∀ x ∈ q, (1 ≤ x.1.size ∧ x.1.size ≤ 64) ∧ x.2.size ≤ 64) := by
  rw [rightB, Bool.and_eq_true, Bool.and_eq_true, decide_eq_true_iff, List.all_eq_true, List.all_eq_true] at h
  refine ⟨h.1.1, h.1.2, fun s hs => of_decide_eq_true (h.2.1 s hs), fun x hx => ?_⟩
  have := h.2.2 x hx
  rw [pairB, Bool.and_eq_true] at this
  exact ⟨of_decide_eq_true this.1, of_decide_eq_true this.2⟩
end Go.Proofs.Ytcppccpglcolnaa
