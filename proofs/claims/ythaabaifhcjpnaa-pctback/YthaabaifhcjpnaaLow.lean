/-
  A code in small digits decodes alike. No program.
-/
import Derived.Test.YthaabaifhcjpnaaPure
namespace Go.Proofs.Ythaabaifhcjpnaa
open Go.PlainAid

/-- one byte of a code in small digits: p and q stand ahead of it -/
def lo1 (p q x : Int) : Int := if 65 ≤ x ∧ x ≤ 70 ∧ (q = 37 ∨ p = 37) then x + 32 else x
/-- a code in small digits, behind p and q -/
def lo (p q : Int) : List Int → List Int
  | [] => []
  | x :: r => lo1 p q x :: lo q x r
theorem lo_len (l : List Int) : ∀ p q, (lo p q l).length = l.length := by
  induction l with
  | nil => intro p q; rfl
  | cons x r ih => intro p q; simp [lo, ih]
theorem lo_at (l : List Int) : ∀ (p q : Int) (k : Nat), k < l.length → (lo p q l).getD k 0 = lo1 (if 2 ≤ k then l.getD (k - 2) 0 else if k = 1 then q else p) (if 1 ≤ k then l.getD (k - 1) 0 else q) (l.getD k 0) := by
  induction l with
  | nil => intro p q k hk; simp at hk
  | cons x r ih =>
    intro p q k hk
    match k, hk with
    | 0, _ => rfl
    | k + 1, hk =>
      have hk : k < r.length := by simpa using hk
      have e : (lo p q (x :: r)).getD (k + 1) 0 = (lo q x r).getD k 0 := rfl
      rw [e, ih q x k hk]
      match k, hk with
      | 0, _ => rfl
      | 1, _ => rfl
      | k + 2, _ => simp

/-- a byte's code in small digits -/
def encJ (c : Int) : List Int := if pl c then [c] else [37, lo1 0 37 (dg (c / 16)), lo1 37 0 (dg (c % 16))]
theorem lo1_q (p x : Int) : lo1 p 37 x = lo1 0 37 x := by simp [lo1]
theorem lo1_p (q x : Int) : lo1 37 q x = lo1 37 0 x := by simp [lo1]
theorem lo_enc (c : Int) (h : 0 ≤ c ∧ c ≤ 255) (p q : Int) (hp : p ≠ 37) (hq : q ≠ 37) (r : List Int) : ∃ p' q', p' ≠ 37 ∧ q' ≠ 37 ∧ lo p q (encI c ++ r) = encJ c ++ lo p' q' r := by
  have d1 := dg_bd (c / 16) (by omega) (by omega)
  have d2 := dg_bd (c % 16) (by omega) (by omega)
  unfold encI encJ
  split
  · rename_i hc
    refine ⟨q, c, hq, ?_, ?_⟩
    · intro e; rw [e, pl37] at hc; simp at hc
    · show lo1 p q c :: lo q c r = c :: lo q c r
      rw [lo1, if_neg (by rintro ⟨_, _, h | h⟩; exact hq h; exact hp h)]
  · refine ⟨dg (c / 16), dg (c % 16), by omega, by omega, ?_⟩
    show lo1 p q 37 :: lo1 q 37 (dg (c / 16)) :: lo1 37 (dg (c / 16)) (dg (c % 16)) :: lo (dg (c / 16)) (dg (c % 16)) r = 37 :: lo1 0 37 (dg (c / 16)) :: lo1 37 0 (dg (c % 16)) :: lo (dg (c / 16)) (dg (c % 16)) r
    rw [lo1_q, lo1_p]
    have e : lo1 p q 37 = 37 := by rw [lo1, if_neg (by omega)]
    rw [e]
theorem lo1_hv (n p q : Int) (h0 : 0 ≤ n) (h1 : n ≤ 15) : hv (lo1 p q (dg n)) = n ∧ hd (lo1 p q (dg n)) = true := by
  apply hvs
  unfold lo1 dg
  split <;> split <;> omega
theorem lo1_bd (n p q : Int) (h0 : 0 ≤ n) (h1 : n ≤ 255) : 0 ≤ lo1 p q n ∧ lo1 p q n ≤ 255 := by
  unfold lo1
  split <;> omega
theorem dec_encJ (c : Int) (h : 0 ≤ c ∧ c ≤ 255) (r : List Int) : decL (encJ c ++ r) = (decL r).map (c :: ·) := by
  unfold encJ
  split
  · rename_i hp
    exact dec_pl c r hp
  · obtain ⟨a1, a2⟩ := lo1_hv (c / 16) 0 37 (by omega) (by omega)
    obtain ⟨b1, b2⟩ := lo1_hv (c % 16) 37 0 (by omega) (by omega)
    show decL (37 :: lo1 0 37 (dg (c / 16)) :: lo1 37 0 (dg (c % 16)) :: r) = _
    rw [dec_code _ _ _ _ pl37 rfl a2 b2, a1, b1]
    have : c / 16 * 16 + c % 16 = c := by omega
    rw [this]
theorem dec_lo (l : List Int) : ∀ p q, InR l → p ≠ 37 → q ≠ 37 → decL (lo p q (encL l)) = some l := by
  induction l with
  | nil => intro p q _ _ _; simp [encL, lo, decL]
  | cons c l ih =>
    intro p q h hp hq
    have e : encL (c :: l) = encI c ++ encL l := rfl
    have hc := h c (by simp)
    obtain ⟨p', q', h1, h2, h3⟩ := lo_enc c hc p q hp hq (encL l)
    rw [e, h3, dec_encJ c hc, ih p' q' (fun x hx => h x (by simp [hx])) h1 h2]
    rfl
theorem lo_inR (l : List Int) : ∀ p q, InR l → InR (lo p q l) := by
  induction l with
  | nil => intro p q _ x hx; simp [lo] at hx
  | cons c l ih =>
    intro p q h x hx
    simp only [lo, List.mem_cons] at hx
    rcases hx with rfl | hx
    · exact lo1_bd _ _ _ (h c (by simp)).1 (h c (by simp)).2
    · exact ih q c (fun x hx => h x (by simp [hx])) x hx

/-- a text's code in small digits, byte by byte -/
def loT (a : ByteArray) (k : Nat) : Int := lo1 (if 2 ≤ k then bt a (k - 2) else 0) (if 1 ≤ k then bt a (k - 1) else 0) (bt a k)
theorem loT_at (a : ByteArray) (k : Nat) (hk : k < a.size) : (lo 0 0 (bs a)).getD k 0 = loT a k := by
  rw [lo_at (bs a) 0 0 k (by rw [bs_len]; exact hk)]
  unfold loT
  rw [bs_at, bs_at, bs_at]
  congr 1
  split
  · rfl
  · split <;> rfl
/-- .. as a text -/
def loS (a : ByteArray) : ByteArray := st (lo 0 0 (bs a))

theorem encS_bs (s : ByteArray) : bs (encS s) = encL (bs s) := bs_st (encL_inR (bs_inR s))
theorem decS_enc (s : ByteArray) : decS (encS s) = s ∧ decB (encS s) = true := by
  have e : decL (bs (encS s)) = some (bs s) := by rw [encS_bs]; exact dec_enc (bs_inR s)
  constructor
  · unfold decS; rw [e]; exact st_bs s
  · unfold decB; rw [e]; rfl
theorem decS_lo (s : ByteArray) : decS (loS (encS s)) = s ∧ decB (loS (encS s)) = true := by
  have e : decL (bs (loS (encS s))) = some (bs s) := by
    unfold loS
    rw [bs_st (lo_inR _ 0 0 (bs_inR _)), encS_bs]
    exact dec_lo (bs s) 0 0 (bs_inR s) (by omega) (by omega)
  constructor
  · unfold decS; rw [e]; exact st_bs s
  · unfold decB; rw [e]; rfl
theorem loS_size (a : ByteArray) : (loS a).size = a.size := by unfold loS; rw [st_size, lo_len, bs_len]
theorem encS_size (s : ByteArray) : (encS s).size ≤ 3 * s.size := by
  unfold encS
  rw [st_size]
  have := encL_len (bs s)
  rw [bs_len] at this
  exact this
theorem decS_size (s : ByteArray) : (decS s).size ≤ s.size := by
  unfold decS
  rw [st_size]
  cases e : decL (bs s) with
  | none => simp
  | some m =>
    have := (dec_inR (bs s) m (bs_inR s) e).2
    rw [bs_len] at this
    simpa using this
theorem decS_no (s : ByteArray) (h : decB s = false) : decS s = ⟨#[]⟩ := by
  unfold decB at h
  unfold decS
  have e : decL (bs s) = none := by simpa using h
  rw [e]
  rfl
theorem encS_append (s t : ByteArray) : encS (s ++ t) = encS s ++ encS t := by
  unfold encS
  rw [bs_append, encL_append, st_append]
theorem encS_same (s t : ByteArray) : ((encS s).toList == (encS t).toList) = (s.toList == t.toList) := by
  rw [bs_eq, bs_eq]
  rw [Bool.eq_iff_iff]
  simp only [decide_eq_true_eq]
  constructor
  · intro h
    have := congrArg bs h
    rw [encS_bs, encS_bs] at this
    exact bs_inj (encL_inj (bs_inR s) (bs_inR t) this)
  · intro h; rw [h]
end Go.Proofs.Ythaabaifhcjpnaa
