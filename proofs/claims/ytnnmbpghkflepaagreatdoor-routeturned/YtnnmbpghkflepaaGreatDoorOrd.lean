/-
  Orders told by a number: numbers, texts, rows, patterns. No program.
-/
import Derived.Lib.Small
import Derived.Lib.Strings
namespace Go.Proofs.YtnnmbpghkflepaaGreatDoor

/-- tells an order: -1, 0 or 1; turned round the other sign; nought just of the same; along a row -/
structure TC {α : Type} (c : α → α → Int) : Prop where
  one : ∀ x y, c x y = -1 ∨ c x y = 0 ∨ c x y = 1
  anti : ∀ x y, c y x = - c x y
  zero : ∀ x y, c x y = 0 ↔ x = y
  le : ∀ x y z, c x y ≤ 0 → c y z ≤ 0 → c x z ≤ 0

section
variable {α β : Type} {c : α → α → Int}
theorem TC.refl (h : TC c) (x : α) : c x x = 0 := (h.zero x x).2 rfl
theorem TC.lt_of_lt_le (h : TC c) {x y z : α} (h1 : c x y < 0) (h2 : c y z ≤ 0) : c x z < 0 := by
  have h3 := h.le x y z (by omega) h2
  have h4 : c x z ≠ 0 := by
    intro e
    have := (h.zero x z).1 e
    subst this
    have := h.anti x y
    omega
  omega
theorem TC.lt_of_le_lt (h : TC c) {x y z : α} (h1 : c x y ≤ 0) (h2 : c y z < 0) : c x z < 0 := by
  have h3 := h.le x y z h1 (by omega)
  have h4 : c x z ≠ 0 := by
    intro e
    have := (h.zero x z).1 e
    subst this
    have := h.anti x y
    omega
  omega
theorem TC.neg (h : TC c) {x y : α} (h1 : c x y < 0) : c x y = -1 := by have := h.one x y; omega
/-- the order of what is made of things, if unlike ones make unlike ones -/
theorem TC.on (h : TC c) (f : β → α) (hf : ∀ x y, f x = f y → x = y) : TC (fun x y => c (f x) (f y)) where
  one x y := h.one _ _
  anti x y := h.anti _ _
  zero x y := ⟨fun e => hf _ _ ((h.zero _ _).1 e), fun e => by rw [e]; exact h.refl _⟩
  le x y z := h.le _ _ _
end

/-- of numbers -/
abbrev cI : Int → Int → Int := Lib.compareInt
theorem cI_cases (x y : Int) : (x < y ∧ cI x y = -1) ∨ (x = y ∧ cI x y = 0) ∨ (y < x ∧ cI x y = 1) := by
  unfold cI Lib.compareInt
  by_cases h1 : x < y
  · left; simp [h1]
  · by_cases h2 : y < x
    · right; right; simp [h1, h2]
    · right; left; simp [h1, h2]; omega
theorem tcI : TC cI where
  one x y := by have := cI_cases x y; omega
  anti x y := by have := cI_cases x y; have := cI_cases y x; omega
  zero x y := by have := cI_cases x y; omega
  le x y z h1 h2 := by have := cI_cases x y; have := cI_cases y z; have := cI_cases x z; omega

/-- of texts -/
def cL (x y : List UInt8) : Int := if x < y then -1 else if y < x then 1 else 0
theorem cL_cases (x y : List UInt8) : (x < y ∧ cL x y = -1) ∨ (x = y ∧ cL x y = 0) ∨ (y < x ∧ cL x y = 1) := by
  unfold cL
  by_cases h1 : x < y
  · left; simp [h1]
  · by_cases h2 : y < x
    · right; right; simp [h1, h2]
    · right; left
      refine ⟨List.le_antisymm (List.not_lt.1 h2) (List.not_lt.1 h1), ?_⟩
      rw [if_neg h1, if_neg h2]
theorem tcL : TC cL where
  one x y := by have := cL_cases x y; omega
  anti x y := by
    have a := cL_cases x y
    have b := cL_cases y x
    rcases a with ⟨a, e⟩ | ⟨a, e⟩ | ⟨a, e⟩
    · rcases b with ⟨b, f⟩ | ⟨b, f⟩ | ⟨b, f⟩
      · exact absurd (List.lt_trans a b) (List.lt_irrefl _)
      · subst b; exact absurd a (List.lt_irrefl _)
      · rw [e, f]; rfl
    · subst a
      rw [e]; rfl
    · rcases b with ⟨b, f⟩ | ⟨b, f⟩ | ⟨b, f⟩
      · rw [e, f]
      · subst b; exact absurd a (List.lt_irrefl _)
      · exact absurd (List.lt_trans a b) (List.lt_irrefl _)
  zero x y := by
    constructor
    · intro h
      rcases cL_cases x y with ⟨_, e⟩ | ⟨e, _⟩ | ⟨_, e⟩
      · omega
      · exact e
      · omega
    · intro h
      subst h
      rw [cL, if_neg (List.lt_irrefl _), if_neg (List.lt_irrefl _)]
  le x y z h1 h2 := by
    rcases cL_cases x y with ⟨a, e⟩ | ⟨a, e⟩ | ⟨a, e⟩
    · rcases cL_cases y z with ⟨b, f⟩ | ⟨b, f⟩ | ⟨b, f⟩
      · rw [cL, if_pos (List.lt_trans a b)]; decide
      · subst b; omega
      · omega
    · subst a; exact h2
    · omega
def cT (s t : ByteArray) : Int := cL s.data.toList t.data.toList
theorem tcT : TC cT := tcL.on (fun s : ByteArray => s.data.toList) (fun x y h => by
  apply ByteArray.ext
  exact Array.toList_inj.1 h)

/-- by the first place at which both have one and these are unlike -/
def pf {α : Type} (c : α → α → Int) : List α → List α → Int
  | x :: xs, y :: ys => if c x y ≠ 0 then c x y else pf c xs ys
  | _, _ => 0
/-- rows: so, or the longer one goes first -/
def lx {α : Type} (c : α → α → Int) (a b : List α) : Int := if pf c a b ≠ 0 then pf c a b else cI b.length a.length

section
variable {α : Type} {c : α → α → Int}
theorem lx_cons (x y : α) (xs ys : List α) : lx c (x :: xs) (y :: ys) = if c x y ≠ 0 then c x y else lx c xs ys := by
  have hl : cI ((y :: ys).length : Int) ((x :: xs).length : Int) = cI (ys.length : Int) (xs.length : Int) := by
    have a := cI_cases ((y :: ys).length : Int) ((x :: xs).length : Int)
    have b := cI_cases (ys.length : Int) (xs.length : Int)
    simp only [List.length_cons] at a ⊢
    omega
  have hp : pf c (x :: xs) (y :: ys) = if c x y ≠ 0 then c x y else pf c xs ys := by rw [pf]
  unfold lx
  rw [hl, hp]
  by_cases h : c x y = 0
  · have h' : ¬ (c x y ≠ 0) := by simpa using h
    rw [if_neg h', if_neg h']
  · rw [if_pos h, if_pos h, if_pos h]
theorem lx_nil : lx c [] [] = 0 := rfl
theorem lx_nil_cons (y : α) (ys : List α) : lx c [] (y :: ys) = 1 := by
  unfold lx
  rw [pf, if_neg (by simp)]
  have := cI_cases ((y :: ys).length : Int) (([] : List α).length : Int)
  simp only [List.length_cons, List.length_nil] at this ⊢
  omega
  all_goals simp
theorem lx_cons_nil (x : α) (xs : List α) : lx c (x :: xs) [] = -1 := by
  unfold lx
  rw [pf, if_neg (by simp)]
  have := cI_cases (([] : List α).length : Int) ((x :: xs).length : Int)
  simp only [List.length_cons, List.length_nil] at this ⊢
  omega
  all_goals simp
theorem tcX (h : TC c) : TC (lx c) where
  one x y := by
    induction x generalizing y with
    | nil => cases y with
      | nil => rw [lx_nil]; omega
      | cons b y => rw [lx_nil_cons]; omega
    | cons a x ih => cases y with
      | nil => rw [lx_cons_nil]; omega
      | cons b y =>
        rw [lx_cons]
        have := h.one a b
        have := ih y
        split <;> omega
  anti x y := by
    induction x generalizing y with
    | nil => cases y with
      | nil => rw [lx_nil]; rfl
      | cons b y => rw [lx_nil_cons, lx_cons_nil]
    | cons a x ih => cases y with
      | nil => rw [lx_cons_nil, lx_nil_cons]; rfl
      | cons b y =>
        rw [lx_cons, lx_cons]
        have := h.anti a b
        have := ih y
        split <;> split <;> omega
  zero x y := by
    induction x generalizing y with
    | nil => cases y with
      | nil => simp [lx_nil]
      | cons b y => rw [lx_nil_cons]; simp
    | cons a x ih => cases y with
      | nil => rw [lx_cons_nil]; simp
      | cons b y =>
        rw [lx_cons]
        have h1 := h.zero a b
        have h2 := ih y
        split
        · rename_i hn
          constructor
          · intro e; exact absurd e hn
          · intro e; injection e with e1 e2; exact absurd (h1.2 e1) hn
        · rename_i hn
          have hn : c a b = 0 := by simpa using hn
          rw [h2]
          constructor
          · intro e; rw [e, h1.1 hn]
          · intro e; injection e
  le x y z := by
    induction x generalizing y z with
    | nil =>
      intro h1 h2
      cases y with
      | nil => exact h2
      | cons b y => rw [lx_nil_cons] at h1; omega
    | cons a x ih =>
      intro h1 h2
      cases z with
      | nil => rw [lx_cons_nil]; omega
      | cons d z =>
        cases y with
        | nil => rw [lx_nil_cons] at h2; omega
        | cons b y =>
          rw [lx_cons] at h1 h2 ⊢
          have o1 := h.one a b
          have o2 := h.one b d
          have o3 := h.one a d
          by_cases e1 : c a b = 0
          · rw [if_neg (by simpa using e1)] at h1
            have := (h.zero a b).1 e1
            subst this
            by_cases e2 : c a d = 0
            · rw [if_neg (by simpa using e2)] at h2 ⊢
              exact ih y z h1 h2
            · rw [if_pos e2] at h2 ⊢
              exact h2
          · rw [if_pos e1] at h1
            by_cases e2 : c b d = 0
            · have := (h.zero b d).1 e2
              subst this
              rw [if_pos e1]
              exact h1
            · rw [if_pos e2] at h2
              have := h.lt_of_lt_le (x := a) (y := b) (z := d) (by omega) h2
              rw [if_pos (by omega)]
              omega
end

/-- patterns: by their Kinds and counts, then by their Texts -/
def cP (a b : List (Int × ByteArray)) : Int :=
  if lx cI (a.map Prod.fst) (b.map Prod.fst) ≠ 0 then lx cI (a.map Prod.fst) (b.map Prod.fst) else lx cT (a.map Prod.snd) (b.map Prod.snd)
theorem fst_snd {α β : Type} {a b : List (α × β)} (h1 : a.map Prod.fst = b.map Prod.fst) (h2 : a.map Prod.snd = b.map Prod.snd) : a = b := by
  induction a generalizing b with
  | nil => cases b with
    | nil => rfl
    | cons y b => simp at h1
  | cons x a ih => cases b with
    | nil => simp at h1
    | cons y b =>
      simp only [List.map_cons, List.cons.injEq] at h1 h2
      rw [ih h1.2 h2.2, Prod.ext h1.1 h2.1]
theorem tcP : TC cP where
  one a b := by
    have := (tcX tcI).one (a.map Prod.fst) (b.map Prod.fst)
    have := (tcX tcT).one (a.map Prod.snd) (b.map Prod.snd)
    unfold cP
    split <;> omega
  anti a b := by
    have := (tcX tcI).anti (a.map Prod.fst) (b.map Prod.fst)
    have := (tcX tcT).anti (a.map Prod.snd) (b.map Prod.snd)
    unfold cP
    split <;> split <;> omega
  zero a b := by
    have h1 := (tcX tcI).zero (a.map Prod.fst) (b.map Prod.fst)
    have h2 := (tcX tcT).zero (a.map Prod.snd) (b.map Prod.snd)
    unfold cP
    split
    · rename_i hn
      constructor
      · intro e; exact absurd e hn
      · intro e; exact absurd (h1.2 (by rw [e])) hn
    · rename_i hn
      have hn : lx cI (a.map Prod.fst) (b.map Prod.fst) = 0 := by simpa using hn
      rw [h2]
      constructor
      · intro e; exact fst_snd (h1.1 hn) e
      · intro e; rw [e]
  le x y z h1 h2 := by
    have hI := tcX tcI
    have hT := tcX tcT
    unfold cP at *
    by_cases e1 : lx cI (x.map Prod.fst) (y.map Prod.fst) = 0
    · rw [if_neg (by simpa using e1)] at h1
      rw [(hI.zero _ _).1 e1]
      by_cases e2 : lx cI (y.map Prod.fst) (z.map Prod.fst) = 0
      · rw [if_neg (by simpa using e2)] at h2 ⊢
        exact hT.le _ _ _ h1 h2
      · rw [if_pos e2] at h2 ⊢
        exact h2
    · rw [if_pos e1] at h1
      by_cases e2 : lx cI (y.map Prod.fst) (z.map Prod.fst) = 0
      · rw [← (hI.zero _ _).1 e2, if_pos e1]
        exact h1
      · rw [if_pos e2] at h2
        have o1 := hI.one (x.map Prod.fst) (y.map Prod.fst)
        have := hI.lt_of_lt_le (x := x.map Prod.fst) (y := y.map Prod.fst) (z := z.map Prod.fst) (by omega) h2
        rw [if_pos (by omega)]
        omega

/-! as it is counted -/
theorem pf_next {α : Type} [Inhabited α] {c : α → α → Int} {a b : List α} {k : Nat} (h1 : k < a.length) (h2 : k < b.length) :
    pf c (a.drop k) (b.drop k) = if c (a.getD k default) (b.getD k default) ≠ 0 then c (a.getD k default) (b.getD k default) else pf c (a.drop (k + 1)) (b.drop (k + 1)) := by
  rw [List.drop_eq_getElem_cons h1, List.drop_eq_getElem_cons h2, pf]
  simp [List.getD, h1, h2]
theorem pf_end {α : Type} {c : α → α → Int} {a b : List α} {k : Nat} (h : a.length ≤ k ∨ b.length ≤ k) : pf c (a.drop k) (b.drop k) = 0 := by
  rcases h with h | h
  · rw [List.drop_eq_nil_of_le h]; cases b.drop k <;> rfl
  · rw [List.drop_eq_nil_of_le h]; cases a.drop k <;> rfl
abbrev pK (a b : List (Int × ByteArray)) : Int := pf cI (a.map Prod.fst) (b.map Prod.fst)
abbrev pT (a b : List (Int × ByteArray)) : Int := pf cT (a.map Prod.snd) (b.map Prod.snd)
theorem cP_is (a b : List (Int × ByteArray)) : cP a b = if pK a b ≠ 0 then pK a b else if cI b.length a.length ≠ 0 then cI b.length a.length else pT a b := by
  unfold cP lx
  simp only [List.length_map]
  by_cases h1 : pK a b = 0
  · have e1 : pf cI (a.map Prod.fst) (b.map Prod.fst) = 0 := h1
    simp only [e1, ne_eq, not_true_eq_false, if_false]
    by_cases h2 : cI (b.length : Int) (a.length : Int) = 0
    · simp only [h2, not_true_eq_false, if_false]
      by_cases h3 : pf cT (a.map Prod.snd) (b.map Prod.snd) = 0
      · simp [h3]
      · simp [h3]
    · simp [h2]
  · have e1 : ¬ pf cI (a.map Prod.fst) (b.map Prod.fst) = 0 := h1
    simp [e1]
theorem getD_fst (a : List (Int × ByteArray)) (k : Nat) (h : k < a.length) : (a.map Prod.fst).getD k default = (a.getD k default).1 := by simp [List.getD, h]
theorem getD_snd (a : List (Int × ByteArray)) (k : Nat) (h : k < a.length) : (a.map Prod.snd).getD k default = (a.getD k default).2 := by simp [List.getD, h]
def pKf (a b : List (Int × ByteArray)) (k : Nat) : Int := pf cI ((a.map Prod.fst).drop k) ((b.map Prod.fst).drop k)
def pTf (a b : List (Int × ByteArray)) (k : Nat) : Int := pf cT ((a.map Prod.snd).drop k) ((b.map Prod.snd).drop k)
theorem pKf_zero (a b : List (Int × ByteArray)) : pKf a b 0 = pK a b := rfl
theorem pTf_zero (a b : List (Int × ByteArray)) : pTf a b 0 = pT a b := rfl
theorem pKf_next {a b : List (Int × ByteArray)} {k : Nat} (h1 : k < a.length) (h2 : k < b.length) : pKf a b k = if cI (a.getD k default).1 (b.getD k default).1 ≠ 0 then cI (a.getD k default).1 (b.getD k default).1 else pKf a b (k + 1) := by
  unfold pKf
  rw [pf_next (by simpa using h1) (by simpa using h2), getD_fst a k h1, getD_fst b k h2]
theorem pTf_next {a b : List (Int × ByteArray)} {k : Nat} (h1 : k < a.length) (h2 : k < b.length) : pTf a b k = if cT (a.getD k default).2 (b.getD k default).2 ≠ 0 then cT (a.getD k default).2 (b.getD k default).2 else pTf a b (k + 1) := by
  unfold pTf
  rw [pf_next (by simpa using h1) (by simpa using h2), getD_snd a k h1, getD_snd b k h2]
theorem pKf_end {a b : List (Int × ByteArray)} {k : Nat} (h : a.length ≤ k ∨ b.length ≤ k) : pKf a b k = 0 := pf_end (by simpa using h)
theorem pTf_end {a b : List (Int × ByteArray)} {k : Nat} (h : a.length ≤ k ∨ b.length ≤ k) : pTf a b k = 0 := pf_end (by simpa using h)
end Go.Proofs.YtnnmbpghkflepaaGreatDoor
