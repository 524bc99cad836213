/-
  Put together: Ord, Pure.
-/
import Derived.Lib.Small
import Derived.Lib.Strings
import Derived.Lib.Bytes
import Derived.PlainAid
import Derived.Laws.Concat
namespace Go.Proofs.YthigandmemifoaaGreatDoor

/-- tells an order: -1, 0 or 1; turned round the other sign; nought just of the same; along a row -/
structure TC {α : Type} (c : α → α → Int) : Prop where
  one : ∀ x y, c x y = -1 ∨ c x y = 0 ∨ c x y = 1
  anti : ∀ x y, c y x = - c x y
  zero : ∀ x y, c x y = 0 ↔ x = y
  le : ∀ x y z, c x y ≤ 0 → c y z ≤ 0 → c x z ≤ 0

section
variable {α β : Type} {c : α → α → Int}
theorem TC.refl (h : TC c) (x : α) : c x x = 0 := (h.zero x x).2 rfl
theorem TC.lt_of_lt_le (h : TC c) {x y z : α} (h1 : c x y < 0) (h2 : c y z ≤ 0) : c x z < 0 := by
  have h3 := h.le x y z (by omega) h2
  have h4 : c x z ≠ 0 := by
    intro e
    have := (h.zero x z).1 e
    subst this
    have := h.anti x y
    omega
  omega
theorem TC.lt_of_le_lt (h : TC c) {x y z : α} (h1 : c x y ≤ 0) (h2 : c y z < 0) : c x z < 0 := by
  have h3 := h.le x y z h1 (by omega)
  have h4 : c x z ≠ 0 := by
    intro e
    have := (h.zero x z).1 e
    subst this
    have := h.anti x y
    omega
  omega
theorem TC.neg (h : TC c) {x y : α} (h1 : c x y < 0) : c x y = -1 := by have := h.one x y; omega
/-- the order of what is made of things, if unlike ones make unlike ones -/
theorem TC.on (h : TC c) (f : β → α) (hf : ∀ x y, f x = f y → x = y) : TC (fun x y => c (f x) (f y)) where
  one x y := h.one _ _
  anti x y := h.anti _ _
  zero x y := ⟨fun e => hf _ _ ((h.zero _ _).1 e), fun e => by rw [e]; exact h.refl _⟩
  le x y z := h.le _ _ _
end

/-- of numbers -/
abbrev cI : Int → Int → Int := Lib.compareInt
theorem cI_cases (x y : Int) : (x < y ∧ cI x y = -1) ∨ (x = y ∧ cI x y = 0) ∨ (y < x ∧ cI x y = 1) := by
  unfold cI Lib.compareInt
  by_cases h1 : x < y
  · left; simp [h1]
  · by_cases h2 : y < x
    · right; right; simp [h1, h2]
    · right; left; simp [h1, h2]; omega
theorem tcI : TC cI where
  one x y := by have := cI_cases x y; omega
  anti x y := by have := cI_cases x y; have := cI_cases y x; omega
  zero x y := by have := cI_cases x y; omega
  le x y z h1 h2 := by have := cI_cases x y; have := cI_cases y z; have := cI_cases x z; omega

/-- of texts -/
def cL (x y : List UInt8) : Int := if x < y then -1 else if y < x then 1 else 0
theorem cL_cases (x y : List UInt8) : (x < y ∧ cL x y = -1) ∨ (x = y ∧ cL x y = 0) ∨ (y < x ∧ cL x y = 1) := by
  unfold cL
  by_cases h1 : x < y
  · left; simp [h1]
  · by_cases h2 : y < x
    · right; right; simp [h1, h2]
    · right; left
      refine ⟨List.le_antisymm (List.not_lt.1 h2) (List.not_lt.1 h1), ?_⟩
      rw [if_neg h1, if_neg h2]
theorem tcL : TC cL where
  one x y := by have := cL_cases x y; omega
  anti x y := by
    have a := cL_cases x y
    have b := cL_cases y x
    rcases a with ⟨a, e⟩ | ⟨a, e⟩ | ⟨a, e⟩
    · rcases b with ⟨b, f⟩ | ⟨b, f⟩ | ⟨b, f⟩
      · exact absurd (List.lt_trans a b) (List.lt_irrefl _)
      · subst b; exact absurd a (List.lt_irrefl _)
      · rw [e, f]; rfl
    · subst a
      rw [e]; rfl
    · rcases b with ⟨b, f⟩ | ⟨b, f⟩ | ⟨b, f⟩
      · rw [e, f]
      · subst b; exact absurd a (List.lt_irrefl _)
      · exact absurd (List.lt_trans a b) (List.lt_irrefl _)
  zero x y := by
    constructor
    · intro h
      rcases cL_cases x y with ⟨_, e⟩ | ⟨e, _⟩ | ⟨_, e⟩
      · omega
      · exact e
      · omega
    · intro h
      subst h
      rw [cL, if_neg (List.lt_irrefl _), if_neg (List.lt_irrefl _)]
  le x y z h1 h2 := by
    rcases cL_cases x y with ⟨a, e⟩ | ⟨a, e⟩ | ⟨a, e⟩
    · rcases cL_cases y z with ⟨b, f⟩ | ⟨b, f⟩ | ⟨b, f⟩
      · rw [cL, if_pos (List.lt_trans a b)]; decide
      · subst b; omega
      · omega
    · subst a; exact h2
    · omega
def cT (s t : ByteArray) : Int := cL s.data.toList t.data.toList
theorem tcT : TC cT := tcL.on (fun s : ByteArray => s.data.toList) (fun x y h => by
  apply ByteArray.ext
  exact Array.toList_inj.1 h)

/-- by the first place at which both have one and these are unlike -/
def pf {α : Type} (c : α → α → Int) : List α → List α → Int
  | x :: xs, y :: ys => if c x y ≠ 0 then c x y else pf c xs ys
  | _, _ => 0
/-- rows: so, or the longer one goes first -/
def lx {α : Type} (c : α → α → Int) (a b : List α) : Int := if pf c a b ≠ 0 then pf c a b else cI b.length a.length

section
variable {α : Type} {c : α → α → Int}
theorem lx_cons (x y : α) (xs ys : List α) : lx c (x :: xs) (y :: ys) = if c x y ≠ 0 then c x y else lx c xs ys := by
  have hl : cI ((y :: ys).length : Int) ((x :: xs).length : Int) = cI (ys.length : Int) (xs.length : Int) := by
    have a := cI_cases ((y :: ys).length : Int) ((x :: xs).length : Int)
    have b := cI_cases (ys.length : Int) (xs.length : Int)
    simp only [List.length_cons] at a ⊢
    omega
  have hp : pf c (x :: xs) (y :: ys) = if c x y ≠ 0 then c x y else pf c xs ys := by rw [pf]
  unfold lx
  rw [hl, hp]
  by_cases h : c x y = 0
  · have h' : ¬ (c x y ≠ 0) := by simpa using h
    rw [if_neg h', if_neg h']
  · rw [if_pos h, if_pos h, if_pos h]
theorem lx_nil : lx c [] [] = 0 := rfl
theorem lx_nil_cons (y : α) (ys : List α) : lx c [] (y :: ys) = 1 := by
  unfold lx
  rw [pf, if_neg (by simp)]
  have := cI_cases ((y :: ys).length : Int) (([] : List α).length : Int)
  simp only [List.length_cons, List.length_nil] at this ⊢
  omega
  all_goals simp
theorem lx_cons_nil (x : α) (xs : List α) : lx c (x :: xs) [] = -1 := by
  unfold lx
  rw [pf, if_neg (by simp)]
  have := cI_cases (([] : List α).length : Int) ((x :: xs).length : Int)
  simp only [List.length_cons, List.length_nil] at this ⊢
  omega
  all_goals simp
theorem tcX (h : TC c) : TC (lx c) where
  one x y := by
    induction x generalizing y with
    | nil => cases y with
      | nil => rw [lx_nil]; omega
      | cons b y => rw [lx_nil_cons]; omega
    | cons a x ih => cases y with
      | nil => rw [lx_cons_nil]; omega
      | cons b y =>
        rw [lx_cons]
        have := h.one a b
        have := ih y
        split <;> omega
  anti x y := by
    induction x generalizing y with
    | nil => cases y with
      | nil => rw [lx_nil]; rfl
      | cons b y => rw [lx_nil_cons, lx_cons_nil]
    | cons a x ih => cases y with
      | nil => rw [lx_cons_nil, lx_nil_cons]; rfl
      | cons b y =>
        rw [lx_cons, lx_cons]
        have := h.anti a b
        have := ih y
        split <;> split <;> omega
  zero x y := by
    induction x generalizing y with
    | nil => cases y with
      | nil => simp [lx_nil]
      | cons b y => rw [lx_nil_cons]; simp
    | cons a x ih => cases y with
      | nil => rw [lx_cons_nil]; simp
      | cons b y =>
        rw [lx_cons]
        have h1 := h.zero a b
        have h2 := ih y
        split
        · rename_i hn
          constructor
          · intro e; exact absurd e hn
          · intro e; injection e with e1 e2; exact absurd (h1.2 e1) hn
        · rename_i hn
          have hn : c a b = 0 := by simpa using hn
          rw [h2]
          constructor
          · intro e; rw [e, h1.1 hn]
          · intro e; injection e
  le x y z := by
    induction x generalizing y z with
    | nil =>
      intro h1 h2
      cases y with
      | nil => exact h2
      | cons b y => rw [lx_nil_cons] at h1; omega
    | cons a x ih =>
      intro h1 h2
      cases z with
      | nil => rw [lx_cons_nil]; omega
      | cons d z =>
        cases y with
        | nil => rw [lx_nil_cons] at h2; omega
        | cons b y =>
          rw [lx_cons] at h1 h2 ⊢
          have o1 := h.one a b
          have o2 := h.one b d
          have o3 := h.one a d
          by_cases e1 : c a b = 0
          · rw [if_neg (by simpa using e1)] at h1
            have := (h.zero a b).1 e1
            subst this
            by_cases e2 : c a d = 0
            · rw [if_neg (by simpa using e2)] at h2 ⊢
              exact ih y z h1 h2
            · rw [if_pos e2] at h2 ⊢
              exact h2
          · rw [if_pos e1] at h1
            by_cases e2 : c b d = 0
            · have := (h.zero b d).1 e2
              subst this
              rw [if_pos e1]
              exact h1
            · rw [if_pos e2] at h2
              have := h.lt_of_lt_le (x := a) (y := b) (z := d) (by omega) h2
              rw [if_pos (by omega)]
              omega
end

/-- patterns: by their Kinds and counts, then by their Texts -/
def cP (a b : List (Int × ByteArray)) : Int :=
  if lx cI (a.map Prod.fst) (b.map Prod.fst) ≠ 0 then lx cI (a.map Prod.fst) (b.map Prod.fst) else lx cT (a.map Prod.snd) (b.map Prod.snd)
theorem fst_snd {α β : Type} {a b : List (α × β)} (h1 : a.map Prod.fst = b.map Prod.fst) (h2 : a.map Prod.snd = b.map Prod.snd) : a = b := by
  induction a generalizing b with
  | nil => cases b with
    | nil => rfl
    | cons y b => simp at h1
  | cons x a ih => cases b with
    | nil => simp at h1
    | cons y b =>
      simp only [List.map_cons, List.cons.injEq] at h1 h2
      rw [ih h1.2 h2.2, Prod.ext h1.1 h2.1]
theorem tcP : TC cP where
  one a b := by
    have := (tcX tcI).one (a.map Prod.fst) (b.map Prod.fst)
    have := (tcX tcT).one (a.map Prod.snd) (b.map Prod.snd)
    unfold cP
    split <;> omega
  anti a b := by
    have := (tcX tcI).anti (a.map Prod.fst) (b.map Prod.fst)
    have := (tcX tcT).anti (a.map Prod.snd) (b.map Prod.snd)
    unfold cP
    split <;> split <;> omega
  zero a b := by
    have h1 := (tcX tcI).zero (a.map Prod.fst) (b.map Prod.fst)
    have h2 := (tcX tcT).zero (a.map Prod.snd) (b.map Prod.snd)
    unfold cP
    split
    · rename_i hn
      constructor
      · intro e; exact absurd e hn
      · intro e; exact absurd (h1.2 (by rw [e])) hn
    · rename_i hn
      have hn : lx cI (a.map Prod.fst) (b.map Prod.fst) = 0 := by simpa using hn
      rw [h2]
      constructor
      · intro e; exact fst_snd (h1.1 hn) e
      · intro e; rw [e]
  le x y z h1 h2 := by
    have hI := tcX tcI
    have hT := tcX tcT
    unfold cP at *
    by_cases e1 : lx cI (x.map Prod.fst) (y.map Prod.fst) = 0
    · rw [if_neg (by simpa using e1)] at h1
      rw [(hI.zero _ _).1 e1]
      by_cases e2 : lx cI (y.map Prod.fst) (z.map Prod.fst) = 0
      · rw [if_neg (by simpa using e2)] at h2 ⊢
        exact hT.le _ _ _ h1 h2
      · rw [if_pos e2] at h2 ⊢
        exact h2
    · rw [if_pos e1] at h1
      by_cases e2 : lx cI (y.map Prod.fst) (z.map Prod.fst) = 0
      · rw [← (hI.zero _ _).1 e2, if_pos e1]
        exact h1
      · rw [if_pos e2] at h2
        have o1 := hI.one (x.map Prod.fst) (y.map Prod.fst)
        have := hI.lt_of_lt_le (x := x.map Prod.fst) (y := y.map Prod.fst) (z := z.map Prod.fst) (by omega) h2
        rw [if_pos (by omega)]
        omega

/-! as it is counted -/
theorem pf_next {α : Type} [Inhabited α] {c : α → α → Int} {a b : List α} {k : Nat} (h1 : k < a.length) (h2 : k < b.length) :
    pf c (a.drop k) (b.drop k) = if c (a.getD k default) (b.getD k default) ≠ 0 then c (a.getD k default) (b.getD k default) else pf c (a.drop (k + 1)) (b.drop (k + 1)) := by
  rw [List.drop_eq_getElem_cons h1, List.drop_eq_getElem_cons h2, pf]
  simp [List.getD, h1, h2]
theorem pf_end {α : Type} {c : α → α → Int} {a b : List α} {k : Nat} (h : a.length ≤ k ∨ b.length ≤ k) : pf c (a.drop k) (b.drop k) = 0 := by
  rcases h with h | h
  · rw [List.drop_eq_nil_of_le h]; cases b.drop k <;> rfl
  · rw [List.drop_eq_nil_of_le h]; cases a.drop k <;> rfl
abbrev pK (a b : List (Int × ByteArray)) : Int := pf cI (a.map Prod.fst) (b.map Prod.fst)
abbrev pT (a b : List (Int × ByteArray)) : Int := pf cT (a.map Prod.snd) (b.map Prod.snd)
theorem cP_is (a b : List (Int × ByteArray)) : cP a b = if pK a b ≠ 0 then pK a b else if cI b.length a.length ≠ 0 then cI b.length a.length else pT a b := by
  unfold cP lx
  simp only [List.length_map]
  by_cases h1 : pK a b = 0
  · have e1 : pf cI (a.map Prod.fst) (b.map Prod.fst) = 0 := h1
    simp only [e1, ne_eq, not_true_eq_false, if_false]
    by_cases h2 : cI (b.length : Int) (a.length : Int) = 0
    · simp only [h2, not_true_eq_false, if_false]
      by_cases h3 : pf cT (a.map Prod.snd) (b.map Prod.snd) = 0
      · simp [h3]
      · simp [h3]
    · simp [h2]
  · have e1 : ¬ pf cI (a.map Prod.fst) (b.map Prod.fst) = 0 := h1
    simp [e1]
theorem getD_fst (a : List (Int × ByteArray)) (k : Nat) (h : k < a.length) : (a.map Prod.fst).getD k default = (a.getD k default).1 := by simp [List.getD, h]
theorem getD_snd (a : List (Int × ByteArray)) (k : Nat) (h : k < a.length) : (a.map Prod.snd).getD k default = (a.getD k default).2 := by simp [List.getD, h]
def pKf (a b : List (Int × ByteArray)) (k : Nat) : Int := pf cI ((a.map Prod.fst).drop k) ((b.map Prod.fst).drop k)
def pTf (a b : List (Int × ByteArray)) (k : Nat) : Int := pf cT ((a.map Prod.snd).drop k) ((b.map Prod.snd).drop k)
theorem pKf_zero (a b : List (Int × ByteArray)) : pKf a b 0 = pK a b := rfl
theorem pTf_zero (a b : List (Int × ByteArray)) : pTf a b 0 = pT a b := rfl
theorem pKf_next {a b : List (Int × ByteArray)} {k : Nat} (h1 : k < a.length) (h2 : k < b.length) : pKf a b k = if cI (a.getD k default).1 (b.getD k default).1 ≠ 0 then cI (a.getD k default).1 (b.getD k default).1 else pKf a b (k + 1) := by
  unfold pKf
  rw [pf_next (by simpa using h1) (by simpa using h2), getD_fst a k h1, getD_fst b k h2]
theorem pTf_next {a b : List (Int × ByteArray)} {k : Nat} (h1 : k < a.length) (h2 : k < b.length) : pTf a b k = if cT (a.getD k default).2 (b.getD k default).2 ≠ 0 then cT (a.getD k default).2 (b.getD k default).2 else pTf a b (k + 1) := by
  unfold pTf
  rw [pf_next (by simpa using h1) (by simpa using h2), getD_snd a k h1, getD_snd b k h2]
theorem pKf_end {a b : List (Int × ByteArray)} {k : Nat} (h : a.length ≤ k ∨ b.length ≤ k) : pKf a b k = 0 := pf_end (by simpa using h)
theorem pTf_end {a b : List (Int × ByteArray)} {k : Nat} (h : a.length ≤ k ∨ b.length ≤ k) : pTf a b k = 0 := pf_end (by simpa using h)
end Go.Proofs.YthigandmemifoaaGreatDoor

namespace Go.Proofs.YthigandmemifoaaGreatDoor
open Go.PlainAid

/-- may it stand by itself? -/
def pl (c : Int) : Bool := decide ((97 ≤ c ∧ c ≤ 122) ∨ (65 ≤ c ∧ c ≤ 90) ∨ (48 ≤ c ∧ c ≤ 57) ∨ c = 45 ∨ c = 46 ∨ c = 95 ∨ c = 126)
/-- is it a hex digit? -/
def hd (c : Int) : Bool := decide ((48 ≤ c ∧ c ≤ 57) ∨ (65 ≤ c ∧ c ≤ 70) ∨ (97 ≤ c ∧ c ≤ 102))
/-- what it counts -/
def hv (c : Int) : Int := if 48 ≤ c ∧ c ≤ 57 then c - 48 else if 65 ≤ c ∧ c ≤ 70 then c - 55 else if 97 ≤ c ∧ c ≤ 102 then c - 87 else 0
theorem hv_bd (c : Int) : 0 ≤ hv c ∧ hv c ≤ 15 := by unfold hv; split <;> (try split) <;> (try split) <;> omega
theorem hvs {c x : Int} (h : (48 ≤ c ∧ c ≤ 57 ∧ x = c - 48) ∨ (65 ≤ c ∧ c ≤ 70 ∧ x = c - 55) ∨ (97 ≤ c ∧ c ≤ 102 ∧ x = c - 87)) : hv c = x ∧ hd c = true := by
  constructor
  · unfold hv; split <;> (try split) <;> (try split) <;> omega
  · unfold hd; exact decide_eq_true (by omega)
theorem hvn {c : Int} (h : ¬ (48 ≤ c ∧ c ≤ 57) ∧ ¬ (65 ≤ c ∧ c ≤ 70) ∧ ¬ (97 ≤ c ∧ c ≤ 102)) : hv c = 0 ∧ hd c = false := by
  constructor
  · unfold hv; split <;> (try split) <;> (try split) <;> omega
  · unfold hd; exact decide_eq_false (by omega)

/-- a text's bytes as numbers -/
def bs (s : ByteArray) : List Int := s.data.toList.map (fun b => (b.toNat : Int))
/-- the text of numbers -/
def st (l : List Int) : ByteArray := ⟨(l.map (fun n => UInt8.ofNat n.toNat)).toArray⟩
/-- all are bytes -/
def InR (l : List Int) : Prop := ∀ x ∈ l, 0 ≤ x ∧ x ≤ 255

theorem bs_len (s : ByteArray) : (bs s).length = s.size := by rw [Lib.size_eq]; simp [bs]
theorem bs_inR (s : ByteArray) : InR (bs s) := by
  intro x hx
  simp only [bs, List.mem_map] at hx
  obtain ⟨b, _, rfl⟩ := hx
  have := b.toNat_lt
  omega
theorem st_bs (s : ByteArray) : st (bs s) = s := by
  have : (bs s).map (fun n => UInt8.ofNat n.toNat) = s.data.toList := by
    simp [bs, List.map_map, Function.comp_def]
  rw [st, this]
theorem bs_st {l : List Int} (h : InR l) : bs (st l) = l := by
  simp only [bs, st, List.map_map]
  conv => rhs; rw [← List.map_id l]
  apply List.map_congr_left
  intro x hx
  obtain ⟨h0, h1⟩ := h x hx
  have h2 : x.toNat % 256 = x.toNat := by omega
  simp [UInt8.toNat_ofNat', h2]
  omega
theorem st_size (l : List Int) : (st l).size = l.length := by rw [Lib.size_eq]; simp [st]
theorem bs_inj {s t : ByteArray} (h : bs s = bs t) : s = t := by rw [← st_bs s, h, st_bs]
theorem bs_eq (s t : ByteArray) : (s.toList == t.toList) = decide (s = t) := by
  rw [Bool.eq_iff_iff]
  simp only [beq_iff_eq, decide_eq_true_eq]
  constructor
  · intro h
    rw [Lib.toList_data, Lib.toList_data] at h
    apply bs_inj
    simp [bs, h]
  · intro h; rw [h]
theorem bs_at (s : ByteArray) (k : Nat) : (bs s).getD k 0 = bt s k := by
  unfold bt
  split
  · rename_i h
    have h' : k < s.data.size := h
    have e : s.data[k]? = some s.data[k] := Array.getElem?_eq_getElem h'
    simp [bs, List.getD, e]
    rfl
  · rename_i h
    have h' : ¬ k < s.data.size := h
    simp [bs, List.getD, List.getElem?_eq_none (show s.data.toList.length ≤ k by simp; omega)]
theorem bs_extract (s : ByteArray) (a b : Nat) : bs (s.extract a b) = ((bs s).drop a).take (b - a) := by
  simp [bs, List.map_drop, List.map_take]
theorem bs_tail (s : ByteArray) (a : Nat) : bs (s.extract a s.size) = (bs s).drop a := by
  rw [bs_extract, List.take_of_length_le]
  rw [List.length_drop, bs_len]
  omega
theorem bs_append (s t : ByteArray) : bs (s ++ t) = bs s ++ bs t := by
  simp [bs]
theorem st_append (a b : List Int) : st (a ++ b) = st a ++ st b := by
  apply ByteArray.ext
  simp [st]

/-- a hex digit -/
def dg (n : Int) : Int := if n < 10 then n + 48 else n + 55
/-- a byte's code -/
def encI (c : Int) : List Int := if pl c then [c] else [37, dg (c / 16), dg (c % 16)]
/-- a text's code -/
def encL (l : List Int) : List Int := l.flatMap encI
/-- what a code says -/
def decL : List Int → Option (List Int)
  | [] => some []
  | [a] => if pl a then some [a] else none
  | [a, b] => if pl a then (decL [b]).map (a :: ·) else none
  | a :: b :: c :: r => if pl a then (decL (b :: c :: r)).map (a :: ·) else if a = 37 ∧ hd b = true ∧ hd c = true then (decL r).map ((hv b * 16 + hv c) :: ·) else none

theorem dec_pl (a : Int) (r : List Int) (h : pl a = true) : decL (a :: r) = (decL r).map (a :: ·) := by
  match r with
  | [] => simp [decL, h]
  | [b] => simp [decL, h]
  | b :: c :: r => rw [decL, if_pos h]
theorem dec_code (a b c : Int) (r : List Int) (h : pl a = false) (h1 : a = 37) (h2 : hd b = true) (h3 : hd c = true) : decL (a :: b :: c :: r) = (decL r).map ((hv b * 16 + hv c) :: ·) := by
  rw [decL, if_neg (by simp [h]), if_pos ⟨h1, h2, h3⟩]

theorem drop_cons {l : List Int} {k : Nat} (h : k < l.length) : l.drop k = l.getD k 0 :: l.drop (k + 1) := by
  rw [List.drop_eq_getElem_cons h]
  simp [List.getD, h]

theorem dec_step1 (l : List Int) (k : Nat) (hk : k < l.length) (h : pl (l.getD k 0) = true) : decL (l.drop k) = (decL (l.drop (k + 1))).map (l.getD k 0 :: ·) := by
  rw [drop_cons hk, dec_pl _ _ h]
theorem dec_step3 (l : List Int) (k : Nat) (hk : k + 2 < l.length) (h : pl (l.getD k 0) = false) (h0 : l.getD k 0 = 37) (h1 : hd (l.getD (k + 1) 0) = true) (h2 : hd (l.getD (k + 2) 0) = true) :
    decL (l.drop k) = (decL (l.drop (k + 3))).map ((hv (l.getD (k + 1) 0) * 16 + hv (l.getD (k + 2) 0)) :: ·) := by
  rw [drop_cons (show k < l.length by omega), drop_cons (show k + 1 < l.length by omega), drop_cons (show k + 1 + 1 < l.length by omega), dec_code _ _ _ _ h h0 h1 h2]
theorem dec_step0 (l : List Int) (k : Nat) (hk : k < l.length) (h : pl (l.getD k 0) = false) (hn : ¬ (l.getD k 0 = 37 ∧ k + 2 < l.length ∧ hd (l.getD (k + 1) 0) = true ∧ hd (l.getD (k + 2) 0) = true)) : decL (l.drop k) = none := by
  have hh : ¬ pl (l.getD k 0) = true := by rw [h]; decide
  rw [drop_cons hk]
  by_cases h1 : k + 1 < l.length
  · rw [drop_cons h1]
    by_cases h2 : k + 1 + 1 < l.length
    · rw [drop_cons h2, decL, if_neg hh, if_neg]
      rintro ⟨a, b, c⟩
      exact hn ⟨a, h2, b, c⟩
    · rw [List.drop_eq_nil_of_le (by omega), decL, if_neg hh]
  · rw [List.drop_eq_nil_of_le (by omega), decL, if_neg hh]

theorem dg_pl (n : Int) (h0 : 0 ≤ n) (h1 : n ≤ 15) : hv (dg n) = n ∧ hd (dg n) = true := by
  unfold dg
  apply hvs
  split <;> omega
theorem dg_bd (n : Int) (h0 : 0 ≤ n) (h1 : n ≤ 15) : 48 ≤ dg n ∧ dg n ≤ 70 := by
  unfold dg
  split <;> omega
theorem pl37 : pl 37 = false := by decide
theorem encI_inR (c : Int) (h : 0 ≤ c ∧ c ≤ 255) : InR (encI c) := by
  unfold encI
  have h1 := dg_bd (c / 16) (by omega) (by omega)
  have h2 := dg_bd (c % 16) (by omega) (by omega)
  split
  · intro x hx; simp at hx; omega
  · intro x hx; simp at hx; omega
theorem encL_inR {l : List Int} (h : InR l) : InR (encL l) := by
  intro x hx
  simp only [encL, List.mem_flatMap] at hx
  obtain ⟨c, hc, hx⟩ := hx
  exact encI_inR c (h c hc) x hx
theorem dec_encI (c : Int) (h : 0 ≤ c ∧ c ≤ 255) (r : List Int) : decL (encI c ++ r) = (decL r).map (c :: ·) := by
  unfold encI
  split
  · rename_i hp
    exact dec_pl c r hp
  · obtain ⟨a1, a2⟩ := dg_pl (c / 16) (by omega) (by omega)
    obtain ⟨b1, b2⟩ := dg_pl (c % 16) (by omega) (by omega)
    show decL (37 :: dg (c / 16) :: dg (c % 16) :: r) = _
    rw [dec_code _ _ _ _ pl37 rfl a2 b2, a1, b1]
    have : c / 16 * 16 + c % 16 = c := by omega
    rw [this]
theorem dec_enc {l : List Int} (h : InR l) : decL (encL l) = some l := by
  induction l with
  | nil => rfl
  | cons c l ih =>
    have e : encL (c :: l) = encI c ++ encL l := rfl
    rw [e, dec_encI c (h c (by simp)), ih (fun x hx => h x (by simp [hx]))]
    rfl
theorem encL_append (a b : List Int) : encL (a ++ b) = encL a ++ encL b := by simp [encL]
theorem encL_inj {a b : List Int} (ha : InR a) (hb : InR b) (h : encL a = encL b) : a = b := by
  have h1 := dec_enc ha
  rw [h, dec_enc hb] at h1
  exact (Option.some.inj h1).symm
theorem encI_len (c : Int) : (encI c).length ≤ 3 := by unfold encI; split <;> simp
theorem encL_len (l : List Int) : (encL l).length ≤ 3 * l.length := by
  induction l with
  | nil => simp [encL]
  | cons c l ih =>
    have e : encL (c :: l) = encI c ++ encL l := rfl
    have := encI_len c
    rw [e, List.length_append, List.length_cons]
    omega
/-- what is decoded is bytes, no more than there were -/
theorem dec_inR : ∀ (l m : List Int), InR l → decL l = some m → InR m ∧ m.length ≤ l.length := by
  intro l
  induction hn : l.length using Nat.strongRecOn generalizing l with
  | ind n ih =>
    intro m hl hd'
    match l, hn, hl, hd' with
    | [], _, _, hd' => simp [decL] at hd'; subst hd'; exact ⟨by simp [InR], by simp⟩
    | a :: r, hn, hl, hd' =>
      by_cases hp : pl a = true
      · rw [dec_pl a r hp] at hd'
        simp only [Option.map_eq_some_iff] at hd'
        obtain ⟨m', h1, rfl⟩ := hd'
        obtain ⟨i1, i2⟩ := ih r.length (by simp at hn; omega) r rfl m' (fun x hx => hl x (by simp [hx])) h1
        refine ⟨fun x hx => ?_, by simp; simp at hn; omega⟩
        simp only [List.mem_cons] at hx
        rcases hx with rfl | hx
        · exact hl _ (by simp)
        · exact i1 x hx
      · match r, hn, hl, hd' with
        | [], _, _, hd' => simp [decL, hp] at hd'
        | [b], _, _, hd' => simp [decL, hp] at hd'
        | b :: c :: r, hn, hl, hd' =>
          rw [decL, if_neg hp] at hd'
          split at hd'
          · simp only [Option.map_eq_some_iff] at hd'
            obtain ⟨m', h1, rfl⟩ := hd'
            obtain ⟨i1, i2⟩ := ih r.length (by simp at hn; omega) r rfl m' (fun x hx => hl x (by simp [hx])) h1
            refine ⟨fun x hx => ?_, by simp; simp at hn; omega⟩
            simp only [List.mem_cons] at hx
            rcases hx with rfl | hx
            · have := hv_bd b
              have := hv_bd c
              omega
            · exact i1 x hx
          · simp at hd'

/-- Encode, of texts -/
def encS (s : ByteArray) : ByteArray := st (encL (bs s))
/-- Decode, of texts -/
def decS (s : ByteArray) : ByteArray := st ((decL (bs s)).getD [])
def decB (s : ByteArray) : Bool := (decL (bs s)).isSome
end Go.Proofs.YthigandmemifoaaGreatDoor
