/-
  Put together: Keep, Pat, KWalk.
-/
import Derived.Test.YthigandmemifoaaGreatDoorP04
import Derived.Deep.RegionHeld3
import Derived.Lib.Join
import Derived.Lib.IndexLaws
namespace Go.Proofs.YthigandmemifoaaGreatDoor
open Go.RowKit Go.PlainAid
set_option maxRecDepth 100000

def wi (n h : Int) : Int := if n.tmod (h + 1) < 0 then n.tmod (h + 1) + h + 1 else n.tmod (h + 1)
theorem wi_in (n h : Int) (h0 : 0 ≤ h) : 0 ≤ wi n h ∧ wi n h ≤ h := by
  have b1 := Int.tmod_lt_of_pos n (show 0 < h + 1 by omega)
  have b2 := Int.lt_tmod_of_pos n (show 0 < h + 1 by omega)
  unfold wi
  split <;> omega

set_option maxHeartbeats 400000 in
theorem within_any (n h : Int) (w : World) (h0 : 0 ≤ h) (h1 : h ≤ 100000) :
    Calls Tryz.prog 17 #[.int .i64 n, .int .i64 0, .int .i64 h] w fun e w' => e = .returned (.int .i64 (wi n h)) ∧ w = w' := by
  have b1 := Int.tmod_lt_of_pos n (show 0 < h + 1 by omega)
  have b2 := Int.lt_tmod_of_pos n (show 0 < h + 1 by omega)
  by_cases hneg : n.tmod (h + 1) < 0
  · have hw : Hid (wi n h = n.tmod (h + 1) + h + 1) := by unfold Hid wi; rw [if_pos hneg]
    go_enter Tryz.func17, Tryz.ntmps17
    go_wp2
    go_ret
    exact ⟨by rw [hw.out]; rfl, rfl⟩
  · have hw : Hid (wi n h = n.tmod (h + 1)) := by unfold Hid wi; rw [if_neg hneg]
    go_enter Tryz.func17, Tryz.ntmps17
    go_wp2
    go_ret
    exact ⟨by rw [hw.out]; rfl, rfl⟩
theorem within19 (n : Int) (h : Nat) (w : World) (h1 : h ≤ 100000) :
    Calls Tryz.prog 17 #[.int .i64 n, .int .i64 0, .int .i64 h] w fun e w' => ∃ r : Nat, r ≤ h ∧ e = .returned (.int .i64 r) ∧ w' = w := by
  refine (within_any n h w (by omega) (by omega)).mono ?_
  rintro e w' ⟨rfl, rfl⟩
  have := wi_in n h (by omega)
  exact ⟨(wi n h).toNat, by omega, by rw [Int.toNat_of_nonneg this.1], rfl⟩

def wordsL : List ByteArray := [⟨#[97]⟩, ⟨#[98]⟩, ⟨#[105, 116, 101, 109]⟩, ⟨#[120, 32, 121]⟩, ⟨#[37]⟩, ⟨#[97, 47, 98]⟩, ⟨#[46, 46]⟩, ⟨#[122]⟩, ⟨#[49]⟩, ⟨#[108, 105, 115, 116]⟩, ⟨#[255]⟩, ⟨#[63, 61, 38]⟩]
set_option maxHeartbeats 400000 in
theorem words18 (w : World) : Calls Tryz.prog 28 #[] w fun e w' => e = .returned (.slice (some ⟨w.heap.size, 0, none⟩) 12 12) ∧ w' = w.alloc (.cells (wordsL.map Value.string).toArray 9 (0, 0)) := by
  go_enter Tryz.func28, Tryz.ntmps28
  go_wp2
  go_ret
  exact ⟨rfl, rfl⟩

/-- numbers that came in -/
def Ia (w : World) (A : Option Addr) (n : Nat) (f : Nat → Int) : Prop := n ≤ 9223372036854775807 ∧ ∀ i, i < n → ∃ b o, A = some ⟨b, o, none⟩ ∧ w.cell? ⟨b, o + i, none⟩ = some (.int .i64 (f i))
theorem Ia.call {w w' : World} {A : Option Addr} {n : Nat} {f : Nat → Int} (h : Ia w A n f) (hb : Below w.heap.size w w') : Ia w' A n f :=
  ⟨h.1, fun i hi => by obtain ⟨b, o, h1, h2⟩ := h.2 i hi; exact ⟨b, o, h1, by rw [hb.cell (World.block_lt_of_cell? _ _ h2)]; exact h2⟩⟩

set_option maxHeartbeats 400000 in
theorem pick30 (A : Option Addr) (n c : Nat) (f : Nat → Int) (i : Nat) (w : World) (h : Ia w A n f) :
    Calls Tryz.prog 27 #[.slice A n c, .int .i64 i] w fun e w' => ∃ x : Int, e = .returned (.int .i64 x) ∧ w' = w := by
  by_cases hn : n = 0
  · subst hn
    go_enter Tryz.func27, Tryz.ntmps27
    go_wp2
    go_ret
    exact ⟨0, rfl, rfl⟩
  · obtain ⟨m, hm⟩ : ∃ m, i % n = m := ⟨_, rfl⟩
    have hmn : m < n := by rw [← hm]; exact Nat.mod_lt _ (by omega)
    obtain ⟨b, o, rfl, hc⟩ := h.2 m hmn
    have hn1 := h.1
    have c0 : ((n : Int) == 0) = false := by simp; omega
    have c1 : (i : Int).tmod (n : Int) = (m : Int) := by rw [← hm]; rfl
    have c2 : ¬ (n : Int) = 0 := by omega
    have c3 : (m : Int) < (n : Int) := by omega
    go_enter Tryz.func27, Tryz.ntmps27
    go_wp2
    go_ret
    exact ⟨_, rfl, rfl⟩

theorem within_nat (n : Int) (h r : Nat) (w : World) (h1 : h ≤ 100000) (hr : wi n h = (r : Int)) :
    Calls Tryz.prog 17 #[.int .i64 n, .int .i64 0, .int .i64 h] w fun e w' => e = .returned (.int .i64 r) ∧ w' = w :=
  (within_any n h w (by omega) (by omega)).mono fun _ _ ⟨he, hw⟩ => ⟨by rw [he, hr], hw.symm⟩


def pickV (n : Nat) (f : Nat → Int) (i : Nat) : Int := if n = 0 then 0 else f (i % n)
set_option maxHeartbeats 400000 in
theorem pickV30 (A : Option Addr) (n c : Nat) (f : Nat → Int) (i : Nat) (pv : Int) (w : World) (h : Ia w A n f) (hp : pv = pickV n f i) :
    Calls Tryz.prog 27 #[.slice A n c, .int .i64 i] w fun e w' => e = .returned (.int .i64 pv) ∧ w' = w := by
  subst hp
  by_cases hn : n = 0
  · have hp : pickV n f i = 0 := by rw [pickV, if_pos hn]
    rw [hp]
    subst hn
    go_enter Tryz.func27, Tryz.ntmps27
    go_wp2
    go_ret
    exact ⟨rfl, rfl⟩
  · obtain ⟨m, hm⟩ : ∃ m, i % n = m := ⟨_, rfl⟩
    have hmn : m < n := by rw [← hm]; exact Nat.mod_lt _ (by omega)
    have hp : pickV n f i = f m := by rw [pickV, if_neg hn, hm]
    rw [hp]
    obtain ⟨b, o, rfl, hc⟩ := h.2 m hmn
    have hn1 := h.1
    have c0 : ((n : Int) == 0) = false := by simp; omega
    have c1 : (i : Int).tmod (n : Int) = (m : Int) := by rw [← hm]; rfl
    have c2 : ¬ (n : Int) = 0 := by omega
    have c3 : (m : Int) < (n : Int) := by omega
    go_enter Tryz.func27, Tryz.ntmps27
    go_wp2
    go_ret
    exact ⟨rfl, rfl⟩
end Go.Proofs.YthigandmemifoaaGreatDoor

namespace Go.Proofs.YthigandmemifoaaGreatDoor
open Go.PlainAid

/-- a small letter or a digit -/
def lc (c : Int) : Bool := decide ((97 ≤ c ∧ c ≤ 122) ∨ (48 ≤ c ∧ c ≤ 57))
/-- may it be a segment's text? -/
def txB (s : ByteArray) : Bool := decide (1 ≤ s.size ∧ s.size ≤ 16) && (bs s).all lc
/-- may a segment of this kind stand there? -/
def stB (k : Int) (last : Bool) : Bool := if k = 0 ∨ k = 1 then true else if k = 2 ∨ k = 3 then last else false
/-- has one ahead its name? -/
def twP (g o : Sg) : Bool := decide (o.1 ≠ 0 ∧ o.2 = g.2)
def twB (g : Sg) (l : List Sg) : Bool := if g.1 = 0 then false else l.any (twP g)
def okB (l : List Sg) (i : Nat) : Bool := stB (l.getD i default).1 (decide (i + 1 = l.length)) && (txB (l.getD i default).2 && !twB (l.getD i default) (l.take i))
def rgB (l : List Sg) : Bool := decide (l.length ≤ 8) && (List.range l.length).all (okB l)

theorem rg_not {l : List Sg} {k : Nat} (h : k < l.length) (hf : okB l k = false) : rgB l = false := by
  rw [rgB]
  have : (List.range l.length).all (okB l) = false := by
    rw [List.all_eq_false]
    exact ⟨k, by simpa using h, by rw [hf]; decide⟩
  rw [this]; simp
theorem rg_yes {l : List Sg} (h8 : l.length ≤ 8) (h : ∀ j, j < l.length → okB l j = true) : rgB l = true := by
  rw [rgB, decide_eq_true h8, Bool.true_and, List.all_eq_true]
  intro j hj
  exact h j (by simpa using hj)
theorem rg_len {l : List Sg} (h : rgB l = true) : l.length ≤ 8 := by
  rw [rgB, Bool.and_eq_true] at h
  exact of_decide_eq_true h.1
theorem rg_ok {l : List Sg} (h : rgB l = true) (j : Nat) (hj : j < l.length) : okB l j = true := by
  rw [rgB, Bool.and_eq_true, List.all_eq_true] at h
  exact h.2 j (by simpa using hj)

/-- the pieces, the last one whole behind so many cuts -/
def splNL (m : Int) : Nat → List Int → List (List Int)
  | 0, l => [l]
  | n + 1, l => if m ∈ l then l.takeWhile (· ≠ m) :: splNL m n ((l.dropWhile (· ≠ m)).drop 1) else [l]
def spN (m : Int) (n : Nat) (s : ByteArray) : List ByteArray := (splNL m n (bs s)).map st
theorem splNL_mark (m : Int) (n : Nat) (p r : List Int) (h : ∀ x ∈ p, x ≠ m) : splNL m (n + 1) (p ++ m :: r) = p :: splNL m n r := by
  rw [splNL, if_pos (by simp)]
  have h1 : (p ++ m :: r).takeWhile (· ≠ m) = p := by
    rw [List.takeWhile_append_of_pos (by simpa using h)]
    simp
  have h2 : (p ++ m :: r).dropWhile (· ≠ m) = m :: r := by
    rw [List.dropWhile_append_of_pos (by simpa using h)]
    simp
  rw [h1, h2]
  rfl
theorem splNL_none (m : Int) (n : Nat) (p : List Int) (h : ∀ x ∈ p, x ≠ m) : splNL m n p = [p] := by
  cases n with
  | zero => rfl
  | succ n => rw [splNL, if_neg (fun hm => h m hm rfl)]
/-- a list has a first mark, or none -/
theorem first_mark (m : Int) (l : List Int) : (∀ x ∈ l, x ≠ m) ∨ ∃ p r, l = p ++ m :: r ∧ ∀ x ∈ p, x ≠ m := by
  induction l with
  | nil => exact Or.inl (by simp)
  | cons c l ih =>
    by_cases hc : c = m
    · subst hc
      exact Or.inr ⟨[], l, rfl, by simp⟩
    · rcases ih with h | ⟨p, r, rfl, h⟩
      · refine Or.inl fun x hx => ?_
        simp only [List.mem_cons] at hx
        rcases hx with rfl | hx
        · exact hc
        · exact h x hx
      · refine Or.inr ⟨c :: p, r, rfl, fun x hx => ?_⟩
        simp only [List.mem_cons] at hx
        rcases hx with rfl | hx
        · exact hc
        · exact h x hx
theorem splNL_all (m : Int) : ∀ (n : Nat) (l : List Int), (splL m l).length ≤ n + 1 → splNL m n l = splL m l := by
  intro n
  induction n with
  | zero =>
    intro l h
    rcases first_mark m l with hm | ⟨p, r, rfl, hm⟩
    · rw [splL_none m l hm]; rfl
    · rw [splL_mark m p r hm] at h
      have := splL_ne m r
      rw [List.length_cons] at h
      omega
  | succ n ih =>
    intro l h
    rcases first_mark m l with hm | ⟨p, r, rfl, hm⟩
    · rw [splL_none m l hm, splNL_none m _ l hm]
    · rw [splL_mark m p r hm] at h
      rw [splL_mark m p r hm, splNL_mark m n p r hm, ih r (by simp at h; omega)]
theorem splNL_more (m : Int) : ∀ (n : Nat) (l : List Int), n + 1 ≤ (splL m l).length → (splNL m n l).length = n + 1 := by
  intro n
  induction n with
  | zero => intro l h; rfl
  | succ n ih =>
    intro l h
    rcases first_mark m l with hm | ⟨p, r, rfl, hm⟩
    · rw [splL_none m l hm] at h; simp at h
    · rw [splL_mark m p r hm] at h
      rw [splNL_mark m n p r hm, List.length_cons, ih r (by simp at h; omega)]
theorem splL_len (m : Int) (l : List Int) : (splL m l).length ≤ l.length + 1 := by
  induction l with
  | nil => simp [splL]
  | cons c r ih =>
    rw [splL]
    split
    · simp; omega
    · split <;> simp_all <;> omega
theorem splNL_len (m : Int) (n : Nat) (l : List Int) : 1 ≤ (splNL m n l).length ∧ (splNL m n l).length ≤ n + 1 := by
  have := splL_ne m l
  by_cases h : (splL m l).length ≤ n + 1
  · rw [splNL_all m n l h]; exact ⟨this, h⟩
  · rw [splNL_more m n l (by omega)]; omega
theorem splNL_size (m : Int) : ∀ (n : Nat) (l : List Int), ∀ q ∈ splNL m n l, q.length ≤ l.length := by
  intro n
  induction n with
  | zero => intro l q hq; simp [splNL] at hq; simp [hq]
  | succ n ih =>
    intro l q hq
    rcases first_mark m l with hm | ⟨p, r, rfl, hm⟩
    · rw [splNL_none m _ l hm] at hq; simp at hq; simp [hq]
    · rw [splNL_mark m n p r hm, List.mem_cons] at hq
      rcases hq with rfl | hq
      · simp
      · have := ih r q hq; simp; omega
/-- the cuts that a text of this length bears are enough -/
theorem splNL_min (m : Int) (n : Nat) (l : List Int) : splNL m (min n l.length) l = splNL m n l := by
  by_cases h : n ≤ l.length
  · rw [Nat.min_eq_left h]
  · have := splL_len m l
    rw [Nat.min_eq_right (by omega), splNL_all m _ l this, splNL_all m n l (by omega)]

/-- what a segment prints -/
def sgL (g : Sg) : List Int := if g.1 = 1 then 58 :: bs g.2 else if g.1 = 2 then 58 :: (bs g.2 ++ [63]) else if g.1 = 3 then 42 :: bs g.2 else bs g.2
def prL (l : List Sg) : List Int := l.flatMap (fun g => 47 :: sgL g)
def prT (l : List Sg) : ByteArray := if rgB l then (if l = [] then st [47] else st (prL l)) else st []

/-- what a piece reads as -/
def rdL : List Int → Sg
  | [] => (0, st [])
  | c :: r => if c = 42 then (3, st r) else if c = 58 then (if r.getLast? = some 63 then (2, st r.dropLast) else (1, st r)) else (0, st (c :: r))
def cmI (s : ByteArray) : List Sg := (splNL 47 8 ((bs s).drop 1)).map rdL
def cmB (s : ByteArray) : Bool := if s = st [47] then true else decide ((bs s).head? = some 47) && rgB (cmI s)
def cmL (s : ByteArray) : List Sg := if s = st [47] then [] else if decide ((bs s).head? = some 47) && rgB (cmI s) then cmI s else []

/-- the codes of a rest's segments with marks between -/
def jnL : List (List Int) → List Int
  | [] => []
  | [x] => x
  | x :: y :: r => x ++ 47 :: jnL (y :: r)
def jnT (l : List ByteArray) : ByteArray := st (jnL (l.map (fun s => encL (bs s))))

/-- how many a segment takes -/
def tkN (g : Sg) (left : List ByteArray) : Option Nat :=
  if g.1 = 2 then some (min left.length 1) else if g.1 = 3 then some left.length
  else if left = [] then none else if g.1 = 0 ∧ left.getD 0 default ≠ g.2 then none else some 1
/-- what it tells of them -/
def tlV (g : Sg) (t : List ByteArray) : Option ByteArray :=
  if g.1 = 3 then some (jnT t) else if g.1 = 0 ∨ t = [] then none else some (t.getD 0 default)
def tlP (g : Sg) (t : List ByteArray) : List Pr := match tlV g t with | some v => [(g.2, v)] | none => []
def mtR : List Sg → List ByteArray → Option (List Pr)
  | [], left => if left = [] then some [] else none
  | g :: r, left => match tkN g left with
    | none => none
    | some n => (mtR r (left.drop n)).map (fun q => tlP g (left.take n) ++ q)
def mtO (l : List Sg) (path : List ByteArray) : Option (List Pr) := if rgB l then mtR l path else none
def mtL (l : List Sg) (path : List ByteArray) : List Pr := (mtO l path).getD []
def mtB (l : List Sg) (path : List ByteArray) : Bool := (mtO l path).isSome

/-- the first value of a name -/
def gtF (q : List Pr) (n : ByteArray) : Option ByteArray := (q.find? (fun x => decide (x.1 = n))).map (·.2)
def gtS (q : List Pr) (n : ByteArray) : ByteArray := (gtF q n).getD ⟨#[]⟩
def gtB (q : List Pr) (n : ByteArray) : Bool := (gtF q n).isSome

/-- a rest's segments -/
def spO (v : ByteArray) : Option (List ByteArray) := if v.size = 0 then some [] else if (spN 47 8 v).all decB then some ((spN 47 8 v).map decS) else none
/-- what a segment is built of -/
def gvO (g : Sg) (ps : List Pr) : Option (List ByteArray) :=
  if g.1 = 0 then some [g.2] else match gtF ps g.2 with
    | none => if g.1 = 2 then some [] else none
    | some v => if g.1 = 3 then spO v else some [v]
def bdR : List Sg → List Pr → Option (List ByteArray)
  | [], _ => some []
  | g :: r, ps => match gvO g ps with
    | none => none
    | some x => (bdR r ps).map (x ++ ·)
def smB (a b : List Pr) : Bool := decide (a.length = b.length) && a.all (fun p => b.any (fun q => decide (q = p)))
def nameB (s : ByteArray) : Bool := decide (1 ≤ s.size ∧ s.size ≤ 64)
def pairB (p : Pr) : Bool := nameB p.1 && decide (p.2.size ≤ 64)
def rightB (p : List ByteArray) (q : List Pr) : Bool := decide (p.length ≤ 8 ∧ q.length ≤ 8) && (p.all nameB && q.all pairB)
def bdO (l : List Sg) (ps : List Pr) : Option (List ByteArray) :=
  if rgB l then match bdR l ps with
    | none => none
    | some path => if rightB path [] && (mtB l path && smB (mtL l path) ps) then some path else none
  else none
def bdL (l : List Sg) (ps : List Pr) : List ByteArray := (bdO l ps).getD []
def bdB (l : List Sg) (ps : List Pr) : Bool := (bdO l ps).isSome

/-! one step more -/
theorem drop_get {α : Type} [Inhabited α] (l : List α) (k : Nat) (h : k < l.length) : l.drop k = l.getD k default :: l.drop (k + 1) := by
  rw [List.drop_eq_getElem_cons h]
  simp [List.getD, h]
theorem mt_none {l : List Sg} {k : Nat} {left : List ByteArray} (h : k < l.length) (ht : tkN (l.getD k default) left = none) : mtR (l.drop k) left = none := by
  rw [drop_get l k h, mtR, ht]
theorem mt_step {l : List Sg} {k : Nat} {left : List ByteArray} (h : k < l.length) {n : Nat} (ht : tkN (l.getD k default) left = some n) :
    mtR (l.drop k) left = (mtR (l.drop (k + 1)) (left.drop n)).map (fun q => tlP (l.getD k default) (left.take n) ++ q) := by
  rw [drop_get l k h, mtR, ht]
theorem bd_none {l : List Sg} {k : Nat} {ps : List Pr} (h : k < l.length) (ht : gvO (l.getD k default) ps = none) : bdR (l.drop k) ps = none := by
  rw [drop_get l k h, bdR, ht]
theorem bd_step {l : List Sg} {k : Nat} {ps : List Pr} (h : k < l.length) {x : List ByteArray} (ht : gvO (l.getD k default) ps = some x) :
    bdR (l.drop k) ps = (bdR (l.drop (k + 1)) ps).map (x ++ ·) := by
  rw [drop_get l k h, bdR, ht]
end Go.Proofs.YthigandmemifoaaGreatDoor

namespace Go.Proofs.YthigandmemifoaaGreatDoor
open Go.RowKit Go.PlainAid
set_option maxRecDepth 100000

def ksT : List ByteArray := [⟨#[97]⟩, ⟨#[98]⟩, ⟨#[105, 116, 101, 109]⟩, ⟨#[122]⟩, ⟨#[49]⟩, ⟨#[108, 105, 115, 116]⟩]
def lastT : ByteArray := ⟨#[108, 97, 115, 116]⟩
/-- a pattern that numbers make: few segments -/
def KeepG (l : List Sg) : Prop := l.length ≤ 5
def Mid4 (l : List Sg) : Prop := l.length ≤ 4
theorem mid_keep {l : List Sg} (h : Mid4 l) : KeepG l := by unfold Mid4 at h; unfold KeepG; omega
theorem mid_last {l : List Sg} (h : Mid4 l) (n : Int) (_ : n = 2 ∨ n = 3) : KeepG (l ++ [(n, lastT)]) := by unfold Mid4 at h; unfold KeepG; simp; omega
theorem mid_push {l : List Sg} {g : Sg} (h : l.length < 4) : Mid4 (l ++ [g]) := by unfold Mid4; simp; omega
/-- a slice of segments in a block of segments -/
def Gt (w : World) (v : Value) (l : List Sg) : Prop := Gs w v l ∧ ∀ b o n c, v = .slice (some ⟨b, o, none⟩) n c → ∃ cur fz, w.heap[b]? = some (.cells cur 28 fz)
theorem Gt.call {w w' : World} {v : Value} {l : List Sg} (h : Gt w v l) (hb : Below w.heap.size w w') : Gt w' v l := by
  refine ⟨h.1.call hb, fun b o n c e => ?_⟩
  obtain ⟨cur, fz, hk⟩ := h.2 b o n c e
  exact ⟨cur, fz, blk_call hk hb⟩
theorem OwnG.gt {B : Nat} {w0 : World} {v : Value} {xs : List Sg} {w : World} (h : OwnG B w0 v xs w) : Gt w v xs := by
  refine ⟨h.gs, fun b o n c e => ?_⟩
  obtain ⟨_, ⟨rfl, _⟩ | ⟨g, cap, cur, rfl, _, hg, _⟩⟩ := h.1
  · cases e
  · cases e
    exact ⟨cur, _, hg⟩
theorem blk3 {w : World} {b : Nat} {x y z : Value} {t : TypeId} (h : w.heap[b]? = some (.cells #[x, y, z] t (0, 0))) :
    w.cell? ⟨b, 0, none⟩ = some x ∧ w.cell? ⟨b, 1, none⟩ = some y ∧ w.cell? ⟨b, 2, none⟩ = some z := by
  refine ⟨?_, ?_, ?_⟩ <;> rw [blk_cell h] <;> rfl

end Go.Proofs.YthigandmemifoaaGreatDoor
