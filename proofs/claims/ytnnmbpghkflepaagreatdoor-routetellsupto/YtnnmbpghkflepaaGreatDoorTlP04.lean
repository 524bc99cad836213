/-
  Put together: Keep, Pat, KWalk, Rws.
-/
import Derived.Test.YtnnmbpghkflepaaGreatDoorTlP03
import Derived.Deep.RegionHeld3
import Derived.Lib.Join
import Derived.Lib.IndexLaws
import Derived.Laws.AppendOwnNone
namespace Go.Proofs.YtnnmbpghkflepaaGreatDoor
open Go.RowKit Go.PlainAid
set_option maxRecDepth 100000

def wi (n h : Int) : Int := if n.tmod (h + 1) < 0 then n.tmod (h + 1) + h + 1 else n.tmod (h + 1)
theorem wi_in (n h : Int) (h0 : 0 ≤ h) : 0 ≤ wi n h ∧ wi n h ≤ h := by
  have b1 := Int.tmod_lt_of_pos n (show 0 < h + 1 by omega)
  have b2 := Int.lt_tmod_of_pos n (show 0 < h + 1 by omega)
  unfold wi
  split <;> omega

set_option maxHeartbeats 400000 in
theorem within_any (n h : Int) (w : World) (h0 : 0 ≤ h) (h1 : h ≤ 100000) :
    Calls Tryz.prog 26 #[.int .i64 n, .int .i64 0, .int .i64 h] w fun e w' => e = .returned (.int .i64 (wi n h)) ∧ w = w' := by
  have b1 := Int.tmod_lt_of_pos n (show 0 < h + 1 by omega)
  have b2 := Int.lt_tmod_of_pos n (show 0 < h + 1 by omega)
  by_cases hneg : n.tmod (h + 1) < 0
  · have hw : Hid (wi n h = n.tmod (h + 1) + h + 1) := by unfold Hid wi; rw [if_pos hneg]
    go_enter Tryz.func26, Tryz.ntmps26
    go_wp2
    go_ret
    exact ⟨by rw [hw.out]; rfl, rfl⟩
  · have hw : Hid (wi n h = n.tmod (h + 1)) := by unfold Hid wi; rw [if_neg hneg]
    go_enter Tryz.func26, Tryz.ntmps26
    go_wp2
    go_ret
    exact ⟨by rw [hw.out]; rfl, rfl⟩
theorem within19 (n : Int) (h : Nat) (w : World) (h1 : h ≤ 100000) :
    Calls Tryz.prog 26 #[.int .i64 n, .int .i64 0, .int .i64 h] w fun e w' => ∃ r : Nat, r ≤ h ∧ e = .returned (.int .i64 r) ∧ w' = w := by
  refine (within_any n h w (by omega) (by omega)).mono ?_
  rintro e w' ⟨rfl, rfl⟩
  have := wi_in n h (by omega)
  exact ⟨(wi n h).toNat, by omega, by rw [Int.toNat_of_nonneg this.1], rfl⟩

def wordsL : List ByteArray := [⟨#[97]⟩, ⟨#[98]⟩, ⟨#[105, 116, 101, 109]⟩, ⟨#[120, 32, 121]⟩, ⟨#[37]⟩, ⟨#[97, 47, 98]⟩, ⟨#[46, 46]⟩, ⟨#[122]⟩, ⟨#[49]⟩, ⟨#[108, 105, 115, 116]⟩, ⟨#[255]⟩, ⟨#[63, 61, 38]⟩]
set_option maxHeartbeats 400000 in
theorem words18 (w : World) : Calls Tryz.prog 29 #[] w fun e w' => e = .returned (.slice (some ⟨w.heap.size, 0, none⟩) 12 12) ∧ w' = w.alloc (.cells (wordsL.map Value.string).toArray 9 (0, 0)) := by
  go_enter Tryz.func29, Tryz.ntmps29
  go_wp2
  go_ret
  exact ⟨rfl, rfl⟩

/-- numbers that came in -/
def Ia (w : World) (A : Option Addr) (n : Nat) (f : Nat → Int) : Prop := n ≤ 9223372036854775807 ∧ ∀ i, i < n → ∃ b o, A = some ⟨b, o, none⟩ ∧ w.cell? ⟨b, o + i, none⟩ = some (.int .i64 (f i))
theorem Ia.call {w w' : World} {A : Option Addr} {n : Nat} {f : Nat → Int} (h : Ia w A n f) (hb : Below w.heap.size w w') : Ia w' A n f :=
  ⟨h.1, fun i hi => by obtain ⟨b, o, h1, h2⟩ := h.2 i hi; exact ⟨b, o, h1, by rw [hb.cell (World.block_lt_of_cell? _ _ h2)]; exact h2⟩⟩

set_option maxHeartbeats 400000 in
theorem pick30 (A : Option Addr) (n c : Nat) (f : Nat → Int) (i : Nat) (w : World) (h : Ia w A n f) :
    Calls Tryz.prog 28 #[.slice A n c, .int .i64 i] w fun e w' => ∃ x : Int, e = .returned (.int .i64 x) ∧ w' = w := by
  by_cases hn : n = 0
  · subst hn
    go_enter Tryz.func28, Tryz.ntmps28
    go_wp2
    go_ret
    exact ⟨0, rfl, rfl⟩
  · obtain ⟨m, hm⟩ : ∃ m, i % n = m := ⟨_, rfl⟩
    have hmn : m < n := by rw [← hm]; exact Nat.mod_lt _ (by omega)
    obtain ⟨b, o, rfl, hc⟩ := h.2 m hmn
    have hn1 := h.1
    have c0 : ((n : Int) == 0) = false := by simp; omega
    have c1 : (i : Int).tmod (n : Int) = (m : Int) := by rw [← hm]; rfl
    have c2 : ¬ (n : Int) = 0 := by omega
    have c3 : (m : Int) < (n : Int) := by omega
    go_enter Tryz.func28, Tryz.ntmps28
    go_wp2
    go_ret
    exact ⟨_, rfl, rfl⟩

theorem within_nat (n : Int) (h r : Nat) (w : World) (h1 : h ≤ 100000) (hr : wi n h = (r : Int)) :
    Calls Tryz.prog 26 #[.int .i64 n, .int .i64 0, .int .i64 h] w fun e w' => e = .returned (.int .i64 r) ∧ w' = w :=
  (within_any n h w (by omega) (by omega)).mono fun _ _ ⟨he, hw⟩ => ⟨by rw [he, hr], hw.symm⟩


def pickV (n : Nat) (f : Nat → Int) (i : Nat) : Int := if n = 0 then 0 else f (i % n)
set_option maxHeartbeats 400000 in
theorem pickV30 (A : Option Addr) (n c : Nat) (f : Nat → Int) (i : Nat) (pv : Int) (w : World) (h : Ia w A n f) (hp : pv = pickV n f i) :
    Calls Tryz.prog 28 #[.slice A n c, .int .i64 i] w fun e w' => e = .returned (.int .i64 pv) ∧ w' = w := by
  subst hp
  by_cases hn : n = 0
  · have hp : pickV n f i = 0 := by rw [pickV, if_pos hn]
    rw [hp]
    subst hn
    go_enter Tryz.func28, Tryz.ntmps28
    go_wp2
    go_ret
    exact ⟨rfl, rfl⟩
  · obtain ⟨m, hm⟩ : ∃ m, i % n = m := ⟨_, rfl⟩
    have hmn : m < n := by rw [← hm]; exact Nat.mod_lt _ (by omega)
    have hp : pickV n f i = f m := by rw [pickV, if_neg hn, hm]
    rw [hp]
    obtain ⟨b, o, rfl, hc⟩ := h.2 m hmn
    have hn1 := h.1
    have c0 : ((n : Int) == 0) = false := by simp; omega
    have c1 : (i : Int).tmod (n : Int) = (m : Int) := by rw [← hm]; rfl
    have c2 : ¬ (n : Int) = 0 := by omega
    have c3 : (m : Int) < (n : Int) := by omega
    go_enter Tryz.func28, Tryz.ntmps28
    go_wp2
    go_ret
    exact ⟨rfl, rfl⟩
end Go.Proofs.YtnnmbpghkflepaaGreatDoor

namespace Go.Proofs.YtnnmbpghkflepaaGreatDoor
open Go.PlainAid

/-- a small letter or a digit -/
def lc (c : Int) : Bool := decide ((97 ≤ c ∧ c ≤ 122) ∨ (48 ≤ c ∧ c ≤ 57))
/-- may it be a segment's text? -/
def txB (s : ByteArray) : Bool := decide (1 ≤ s.size ∧ s.size ≤ 16) && (bs s).all lc
/-- may a segment of this kind stand there? -/
def stB (k : Int) (last : Bool) : Bool := if k = 0 ∨ k = 1 then true else if k = 2 ∨ k = 3 then last else false
/-- has one ahead its name? -/
def twP (g o : Sg) : Bool := decide (o.1 ≠ 0 ∧ o.2 = g.2)
def twB (g : Sg) (l : List Sg) : Bool := if g.1 = 0 then false else l.any (twP g)
def okB (l : List Sg) (i : Nat) : Bool := stB (l.getD i default).1 (decide (i + 1 = l.length)) && (txB (l.getD i default).2 && !twB (l.getD i default) (l.take i))
def rgB (l : List Sg) : Bool := decide (l.length ≤ 8) && (List.range l.length).all (okB l)

theorem rg_not {l : List Sg} {k : Nat} (h : k < l.length) (hf : okB l k = false) : rgB l = false := by
  rw [rgB]
  have : (List.range l.length).all (okB l) = false := by
    rw [List.all_eq_false]
    exact ⟨k, by simpa using h, by rw [hf]; decide⟩
  rw [this]; simp
theorem rg_yes {l : List Sg} (h8 : l.length ≤ 8) (h : ∀ j, j < l.length → okB l j = true) : rgB l = true := by
  rw [rgB, decide_eq_true h8, Bool.true_and, List.all_eq_true]
  intro j hj
  exact h j (by simpa using hj)
theorem rg_len {l : List Sg} (h : rgB l = true) : l.length ≤ 8 := by
  rw [rgB, Bool.and_eq_true] at h
  exact of_decide_eq_true h.1
theorem rg_ok {l : List Sg} (h : rgB l = true) (j : Nat) (hj : j < l.length) : okB l j = true := by
  rw [rgB, Bool.and_eq_true, List.all_eq_true] at h
  exact h.2 j (by simpa using hj)

/-- the pieces, the last one whole behind so many cuts -/
def splNL (m : Int) : Nat → List Int → List (List Int)
  | 0, l => [l]
  | n + 1, l => if m ∈ l then l.takeWhile (· ≠ m) :: splNL m n ((l.dropWhile (· ≠ m)).drop 1) else [l]
def spN (m : Int) (n : Nat) (s : ByteArray) : List ByteArray := (splNL m n (bs s)).map st
theorem splNL_mark (m : Int) (n : Nat) (p r : List Int) (h : ∀ x ∈ p, x ≠ m) : splNL m (n + 1) (p ++ m :: r) = p :: splNL m n r := by
  rw [splNL, if_pos (by simp)]
  have h1 : (p ++ m :: r).takeWhile (· ≠ m) = p := by
    rw [List.takeWhile_append_of_pos (by simpa using h)]
    simp
  have h2 : (p ++ m :: r).dropWhile (· ≠ m) = m :: r := by
    rw [List.dropWhile_append_of_pos (by simpa using h)]
    simp
  rw [h1, h2]
  rfl
theorem splNL_none (m : Int) (n : Nat) (p : List Int) (h : ∀ x ∈ p, x ≠ m) : splNL m n p = [p] := by
  cases n with
  | zero => rfl
  | succ n => rw [splNL, if_neg (fun hm => h m hm rfl)]
/-- a list has a first mark, or none -/
theorem first_mark (m : Int) (l : List Int) : (∀ x ∈ l, x ≠ m) ∨ ∃ p r, l = p ++ m :: r ∧ ∀ x ∈ p, x ≠ m := by
  induction l with
  | nil => exact Or.inl (by simp)
  | cons c l ih =>
    by_cases hc : c = m
    · subst hc
      exact Or.inr ⟨[], l, rfl, by simp⟩
    · rcases ih with h | ⟨p, r, rfl, h⟩
      · refine Or.inl fun x hx => ?_
        simp only [List.mem_cons] at hx
        rcases hx with rfl | hx
        · exact hc
        · exact h x hx
      · refine Or.inr ⟨c :: p, r, rfl, fun x hx => ?_⟩
        simp only [List.mem_cons] at hx
        rcases hx with rfl | hx
        · exact hc
        · exact h x hx
theorem splNL_all (m : Int) : ∀ (n : Nat) (l : List Int), (splL m l).length ≤ n + 1 → splNL m n l = splL m l := by
  intro n
  induction n with
  | zero =>
    intro l h
    rcases first_mark m l with hm | ⟨p, r, rfl, hm⟩
    · rw [splL_none m l hm]; rfl
    · rw [splL_mark m p r hm] at h
      have := splL_ne m r
      rw [List.length_cons] at h
      omega
  | succ n ih =>
    intro l h
    rcases first_mark m l with hm | ⟨p, r, rfl, hm⟩
    · rw [splL_none m l hm, splNL_none m _ l hm]
    · rw [splL_mark m p r hm] at h
      rw [splL_mark m p r hm, splNL_mark m n p r hm, ih r (by simp at h; omega)]
theorem splNL_more (m : Int) : ∀ (n : Nat) (l : List Int), n + 1 ≤ (splL m l).length → (splNL m n l).length = n + 1 := by
  intro n
  induction n with
  | zero => intro l h; rfl
  | succ n ih =>
    intro l h
    rcases first_mark m l with hm | ⟨p, r, rfl, hm⟩
    · rw [splL_none m l hm] at h; simp at h
    · rw [splL_mark m p r hm] at h
      rw [splNL_mark m n p r hm, List.length_cons, ih r (by simp at h; omega)]
theorem splL_len (m : Int) (l : List Int) : (splL m l).length ≤ l.length + 1 := by
  induction l with
  | nil => simp [splL]
  | cons c r ih =>
    rw [splL]
    split
    · simp; omega
    · split <;> simp_all <;> omega
theorem splNL_len (m : Int) (n : Nat) (l : List Int) : 1 ≤ (splNL m n l).length ∧ (splNL m n l).length ≤ n + 1 := by
  have := splL_ne m l
  by_cases h : (splL m l).length ≤ n + 1
  · rw [splNL_all m n l h]; exact ⟨this, h⟩
  · rw [splNL_more m n l (by omega)]; omega
theorem splNL_size (m : Int) : ∀ (n : Nat) (l : List Int), ∀ q ∈ splNL m n l, q.length ≤ l.length := by
  intro n
  induction n with
  | zero => intro l q hq; simp [splNL] at hq; simp [hq]
  | succ n ih =>
    intro l q hq
    rcases first_mark m l with hm | ⟨p, r, rfl, hm⟩
    · rw [splNL_none m _ l hm] at hq; simp at hq; simp [hq]
    · rw [splNL_mark m n p r hm, List.mem_cons] at hq
      rcases hq with rfl | hq
      · simp
      · have := ih r q hq; simp; omega
/-- the cuts that a text of this length bears are enough -/
theorem splNL_min (m : Int) (n : Nat) (l : List Int) : splNL m (min n l.length) l = splNL m n l := by
  by_cases h : n ≤ l.length
  · rw [Nat.min_eq_left h]
  · have := splL_len m l
    rw [Nat.min_eq_right (by omega), splNL_all m _ l this, splNL_all m n l (by omega)]

/-- what a segment prints -/
def sgL (g : Sg) : List Int := if g.1 = 1 then 58 :: bs g.2 else if g.1 = 2 then 58 :: (bs g.2 ++ [63]) else if g.1 = 3 then 42 :: bs g.2 else bs g.2
def prL (l : List Sg) : List Int := l.flatMap (fun g => 47 :: sgL g)
def prT (l : List Sg) : ByteArray := if rgB l then (if l = [] then st [47] else st (prL l)) else st []

/-- what a piece reads as -/
def rdL : List Int → Sg
  | [] => (0, st [])
  | c :: r => if c = 42 then (3, st r) else if c = 58 then (if r.getLast? = some 63 then (2, st r.dropLast) else (1, st r)) else (0, st (c :: r))
def cmI (s : ByteArray) : List Sg := (splNL 47 8 ((bs s).drop 1)).map rdL
def cmB (s : ByteArray) : Bool := if s = st [47] then true else decide ((bs s).head? = some 47) && rgB (cmI s)
def cmL (s : ByteArray) : List Sg := if s = st [47] then [] else if decide ((bs s).head? = some 47) && rgB (cmI s) then cmI s else []

/-- the codes of a rest's segments with marks between -/
def jnL : List (List Int) → List Int
  | [] => []
  | [x] => x
  | x :: y :: r => x ++ 47 :: jnL (y :: r)
def jnT (l : List ByteArray) : ByteArray := st (jnL (l.map (fun s => encL (bs s))))

/-- how many a segment takes -/
def tkN (g : Sg) (left : List ByteArray) : Option Nat :=
  if g.1 = 2 then some (min left.length 1) else if g.1 = 3 then some left.length
  else if left = [] then none else if g.1 = 0 ∧ left.getD 0 default ≠ g.2 then none else some 1
/-- what it tells of them -/
def tlV (g : Sg) (t : List ByteArray) : Option ByteArray :=
  if g.1 = 3 then some (jnT t) else if g.1 = 0 ∨ t = [] then none else some (t.getD 0 default)
def tlP (g : Sg) (t : List ByteArray) : List Pr := match tlV g t with | some v => [(g.2, v)] | none => []
def mtR : List Sg → List ByteArray → Option (List Pr)
  | [], left => if left = [] then some [] else none
  | g :: r, left => match tkN g left with
    | none => none
    | some n => (mtR r (left.drop n)).map (fun q => tlP g (left.take n) ++ q)
def mtO (l : List Sg) (path : List ByteArray) : Option (List Pr) := if rgB l then mtR l path else none
def mtL (l : List Sg) (path : List ByteArray) : List Pr := (mtO l path).getD []
def mtB (l : List Sg) (path : List ByteArray) : Bool := (mtO l path).isSome

/-- the first value of a name -/
def gtF (q : List Pr) (n : ByteArray) : Option ByteArray := (q.find? (fun x => decide (x.1 = n))).map (·.2)
def gtS (q : List Pr) (n : ByteArray) : ByteArray := (gtF q n).getD ⟨#[]⟩
def gtB (q : List Pr) (n : ByteArray) : Bool := (gtF q n).isSome

/-- a rest's segments -/
def spO (v : ByteArray) : Option (List ByteArray) := if v.size = 0 then some [] else if (spN 47 8 v).all decB then some ((spN 47 8 v).map decS) else none
/-- what a segment is built of -/
def gvO (g : Sg) (ps : List Pr) : Option (List ByteArray) :=
  if g.1 = 0 then some [g.2] else match gtF ps g.2 with
    | none => if g.1 = 2 then some [] else none
    | some v => if g.1 = 3 then spO v else some [v]
def bdR : List Sg → List Pr → Option (List ByteArray)
  | [], _ => some []
  | g :: r, ps => match gvO g ps with
    | none => none
    | some x => (bdR r ps).map (x ++ ·)
def smB (a b : List Pr) : Bool := decide (a.length = b.length) && a.all (fun p => b.any (fun q => decide (q = p)))
def nameB (s : ByteArray) : Bool := decide (1 ≤ s.size ∧ s.size ≤ 64)
def pairB (p : Pr) : Bool := nameB p.1 && decide (p.2.size ≤ 64)
def rightB (p : List ByteArray) (q : List Pr) : Bool := decide (p.length ≤ 8 ∧ q.length ≤ 8) && (p.all nameB && q.all pairB)
def bdO (l : List Sg) (ps : List Pr) : Option (List ByteArray) :=
  if rgB l then match bdR l ps with
    | none => none
    | some path => if rightB path [] && (mtB l path && smB (mtL l path) ps) then some path else none
  else none
def bdL (l : List Sg) (ps : List Pr) : List ByteArray := (bdO l ps).getD []
def bdB (l : List Sg) (ps : List Pr) : Bool := (bdO l ps).isSome

/-! one step more -/
theorem drop_get {α : Type} [Inhabited α] (l : List α) (k : Nat) (h : k < l.length) : l.drop k = l.getD k default :: l.drop (k + 1) := by
  rw [List.drop_eq_getElem_cons h]
  simp [List.getD, h]
theorem mt_none {l : List Sg} {k : Nat} {left : List ByteArray} (h : k < l.length) (ht : tkN (l.getD k default) left = none) : mtR (l.drop k) left = none := by
  rw [drop_get l k h, mtR, ht]
theorem mt_step {l : List Sg} {k : Nat} {left : List ByteArray} (h : k < l.length) {n : Nat} (ht : tkN (l.getD k default) left = some n) :
    mtR (l.drop k) left = (mtR (l.drop (k + 1)) (left.drop n)).map (fun q => tlP (l.getD k default) (left.take n) ++ q) := by
  rw [drop_get l k h, mtR, ht]
theorem bd_none {l : List Sg} {k : Nat} {ps : List Pr} (h : k < l.length) (ht : gvO (l.getD k default) ps = none) : bdR (l.drop k) ps = none := by
  rw [drop_get l k h, bdR, ht]
theorem bd_step {l : List Sg} {k : Nat} {ps : List Pr} (h : k < l.length) {x : List ByteArray} (ht : gvO (l.getD k default) ps = some x) :
    bdR (l.drop k) ps = (bdR (l.drop (k + 1)) ps).map (x ++ ·) := by
  rw [drop_get l k h, bdR, ht]
end Go.Proofs.YtnnmbpghkflepaaGreatDoor

namespace Go.Proofs.YtnnmbpghkflepaaGreatDoor
open Go.RowKit Go.PlainAid
set_option maxRecDepth 100000

def ksT : List ByteArray := [⟨#[97]⟩, ⟨#[98]⟩, ⟨#[105, 116, 101, 109]⟩, ⟨#[122]⟩, ⟨#[49]⟩, ⟨#[108, 105, 115, 116]⟩]
def lastT : ByteArray := ⟨#[108, 97, 115, 116]⟩
/-- a pattern that numbers make: few segments -/
def KeepG (l : List Sg) : Prop := l.length ≤ 5
def Mid4 (l : List Sg) : Prop := l.length ≤ 4
theorem mid_keep {l : List Sg} (h : Mid4 l) : KeepG l := by unfold Mid4 at h; unfold KeepG; omega
theorem mid_last {l : List Sg} (h : Mid4 l) (n : Int) (_ : n = 2 ∨ n = 3) : KeepG (l ++ [(n, lastT)]) := by unfold Mid4 at h; unfold KeepG; simp; omega
theorem mid_push {l : List Sg} {g : Sg} (h : l.length < 4) : Mid4 (l ++ [g]) := by unfold Mid4; simp; omega
/-- a slice of segments in a block of segments -/
def Gt (w : World) (v : Value) (l : List Sg) : Prop := Gs w v l ∧ ∀ b o n c, v = .slice (some ⟨b, o, none⟩) n c → ∃ cur fz, w.heap[b]? = some (.cells cur 49 fz)
theorem Gt.call {w w' : World} {v : Value} {l : List Sg} (h : Gt w v l) (hb : Below w.heap.size w w') : Gt w' v l := by
  refine ⟨h.1.call hb, fun b o n c e => ?_⟩
  obtain ⟨cur, fz, hk⟩ := h.2 b o n c e
  exact ⟨cur, fz, blk_call hk hb⟩
theorem OwnG.gt {B : Nat} {w0 : World} {v : Value} {xs : List Sg} {w : World} (h : OwnG B w0 v xs w) : Gt w v xs := by
  refine ⟨h.gs, fun b o n c e => ?_⟩
  obtain ⟨_, ⟨rfl, _⟩ | ⟨g, cap, cur, rfl, _, hg, _⟩⟩ := h.1
  · cases e
  · cases e
    exact ⟨cur, _, hg⟩
theorem blk3 {w : World} {b : Nat} {x y z : Value} {t : TypeId} (h : w.heap[b]? = some (.cells #[x, y, z] t (0, 0))) :
    w.cell? ⟨b, 0, none⟩ = some x ∧ w.cell? ⟨b, 1, none⟩ = some y ∧ w.cell? ⟨b, 2, none⟩ = some z := by
  refine ⟨?_, ?_, ?_⟩ <;> rw [blk_cell h] <;> rfl

end Go.Proofs.YtnnmbpghkflepaaGreatDoor

namespace Go.Proofs.YtnnmbpghkflepaaGreatDoor
open Go.RowKit Go.PlainAid
set_option maxRecDepth 100000

theorem info50 : (Tryz.prog.info? 50).map (fun i => (i.zero, i.size, i.bytes)) = some (some (.slice none 0 0), 1, 24) := by kernel_rfl

/-- patterns, each in a block of segments, in a row of the call's own -/
def OwnL (B : Nat) (w0 : World) (v : Value) (ls : List (List Sg)) (w : World) : Prop :=
  ∃ us : List Value, w.ownsRow B 50 1 v ls.length us ∧ Below B w0 w ∧ B ≤ w.heap.size ∧ ∀ i, i < ls.length → ∃ u, us[i]? = some u ∧ Gt w u (ls.getD i default)

theorem Gt.shape {w : World} {v : Value} {l : List Sg} (h : Gt w v l) : ∃ A n c, v = .slice A n c := h.1.shape
theorem Gt.grown {w w' : World} {v : Value} {l : List Sg} {row : Option Nat} (h : Gt w v l) (hg : w.grownBy w' row) (hrow : ∀ g, row = some g → ∃ cur fz, w.heap[g]? = some (.cells cur 50 fz)) : Gt w' v l := by
  have key : ∀ b o n c, v = .slice (some ⟨b, o, none⟩) n c → w'.heap[b]? = w.heap[b]? := by
    intro b o n c e
    obtain ⟨cur, fz, hk⟩ := h.2 b o n c e
    refine hg.block b (blk_lt hk) ?_
    intro e2
    obtain ⟨cur', fz', hk'⟩ := hrow b e2.symm
    rw [hk] at hk'
    cases hk'
  refine ⟨?_, fun b o n c e => ?_⟩
  · obtain ⟨A, cap, e, h2, h3, h4⟩ := h.1
    refine ⟨A, cap, e, h2, h3, fun i hi => ?_⟩
    obtain ⟨b, o, ha, hc, hd⟩ := h4 i hi
    have hk := key b o l.length cap (by rw [e, ha])
    exact ⟨b, o, ha, by rw [World.cell?_of_block (w := w) hk]; exact hc, by rw [World.cell?_of_block (w := w) hk]; exact hd⟩
  · obtain ⟨cur, fz, hk⟩ := h.2 b o n c e
    exact ⟨cur, fz, (key b o n c e).trans hk⟩
section
variable {B : Nat} {w0 : World} {v : Value} {w : World} {ls : List (List Sg)}
theorem owns26 {n : Nat} {us : List Value} (h : w.ownsRow B 50 1 v n us) : ∀ g, v.ownBlock = some g → ∃ cur fz, w.heap[g]? = some (.cells cur 50 fz) := by
  intro g hg
  obtain ⟨_, ⟨rfl, _⟩ | ⟨g', cap, cur, rfl, _, hk, _⟩⟩ := h
  · cases hg
  · cases hg
    exact ⟨cur, _, hk⟩
theorem OwnL.call {w' : World} (h : OwnL B w0 v ls w) (hb : Below w.heap.size w w') : OwnL B w0 v ls w' := by
  obtain ⟨us, h1, h2, h3, h4⟩ := h
  refine ⟨us, owns_call h1 hb, h2.trans (hb.mono h3), by have := hb.size; omega, fun i hi => ?_⟩
  obtain ⟨u, hu, hg⟩ := h4 i hi
  exact ⟨u, hu, hg.call hb⟩
theorem OwnL.alloc (h : OwnL B w0 v ls w) (o : Obj) : OwnL B w0 v ls (w.alloc o) := h.call ((Below.refl _ _).alloc (Nat.le_refl _) o)
theorem OwnL.below (h : OwnL B w0 v ls w) : Below B w0 w := by obtain ⟨_, _, h2, _⟩ := h; exact h2
theorem OwnL.size (h : OwnL B w0 v ls w) : B ≤ w.heap.size := by obtain ⟨_, _, _, h3, _⟩ := h; exact h3
theorem nilL (B : Nat) (w0 w : World) (hb : Below B w0 w) (hB : B ≤ w.heap.size) : OwnL B w0 (.slice none 0 0) [] w := ⟨[], World.ownsRow_nil _ _ _ _, hb, hB, fun i hi => by simp at hi⟩
theorem empL (B : Nat) (w0 w : World) (hb : Below B w0 w) (hB : B ≤ w.heap.size) : OwnL B w0 (.slice (some ⟨w.heap.size, 0, none⟩) 0 0) [] (w.alloc (.cells #[] 50 (0, 0))) :=
  ⟨[], World.ownsRow_made w #[] 0 hB (by unfold maxLen; omega) (by simp), hb.alloc hB _, by simp; omega, fun i hi => by simp at hi⟩
/-- read -/
theorem OwnL.gss (h : OwnL B w0 v ls w) : Gss w v ls := by
  obtain ⟨us, h1, _, _, h4⟩ := h
  have hc := @World.ownsRow.cells _ _ _ _ _ _ _ h1
  obtain ⟨hl, ⟨rfl, h0⟩ | ⟨g, cap, cur, rfl, _, _, h5, _⟩⟩ := h1
  · obtain rfl : ls = [] := List.eq_nil_of_length_eq_zero h0
    exact gss_nil _
  · refine ⟨some ⟨g, 0, none⟩, cap, rfl, h5, (fun h => by cases h), fun i hi => ?_⟩
    obtain ⟨u, hu, hg⟩ := h4 i hi
    have := hc rfl i u hu
    rw [add_lit'] at this
    exact ⟨g, 0, u, rfl, this, hg.1⟩
/-- read, each in a block of segments -/
def Gts (w : World) (v : Value) (ls : List (List Sg)) : Prop :=
  ∃ A cap, v = .slice A ls.length cap ∧ ls.length ≤ cap ∧ (A = none → cap = 0) ∧ ∀ i, i < ls.length → ∃ b o u, A = some ⟨b, o, none⟩ ∧ w.cell? ⟨b, o + i, none⟩ = some u ∧ Gt w u (ls.getD i default)
theorem OwnL.gts (h : OwnL B w0 v ls w) : Gts w v ls := by
  obtain ⟨us, h1, _, _, h4⟩ := h
  have hc := @World.ownsRow.cells _ _ _ _ _ _ _ h1
  obtain ⟨hl, ⟨rfl, h0⟩ | ⟨g, cap, cur, rfl, _, _, h5, _⟩⟩ := h1
  · obtain rfl : ls = [] := List.eq_nil_of_length_eq_zero h0
    exact ⟨none, 0, rfl, by simp, fun _ => rfl, fun i hi => by simp at hi⟩
  · refine ⟨some ⟨g, 0, none⟩, cap, rfl, h5, (fun h => by cases h), fun i hi => ?_⟩
    obtain ⟨u, hu, hg⟩ := h4 i hi
    have := hc rfl i u hu
    rw [add_lit'] at this
    exact ⟨g, 0, u, rfl, this, hg⟩
theorem Gts.call {w' : World} (h : Gts w v ls) (hb : Below w.heap.size w w') : Gts w' v ls := by
  obtain ⟨A, cap, h1, h2, h3, h4⟩ := h
  refine ⟨A, cap, h1, h2, h3, fun i hi => ?_⟩
  obtain ⟨b, o, u, ha, hc, hd⟩ := h4 i hi
  exact ⟨b, o, u, ha, by rw [hb.cell (World.block_lt_of_cell? w _ hc)]; exact hc, hd.call hb⟩
theorem Gts.gss (h : Gts w v ls) : Gss w v ls := by
  obtain ⟨A, cap, h1, h2, h3, h4⟩ := h
  refine ⟨A, cap, h1, h2, h3, fun i hi => ?_⟩
  obtain ⟨b, o, u, ha, hc, hd⟩ := h4 i hi
  exact ⟨b, o, u, ha, hc, hd.1⟩
theorem OwnL.shape (h : OwnL B w0 v ls w) : ∃ A n c, v = .slice A n c := h.gss.shape

/-- append(v, x...), x some of them -/
theorem wp_appL {o : Oper} {a : Act} {K : Act → World → Prop} {Q : Exit → Act → World → Prop} (s x : Operand)
    (ho : o.op = .call { callee := .builtin .append, args := #[s, x], argTypes := #[66, 66] })
    (hs : a.eval s = v) (hown : OwnL B w0 v ls w) (hn : ls.length ≤ 1000)
    (A : Option Addr) (m c : Nat) (ms : List (List Sg)) (hx : a.eval x = .slice A m c) (hm : ms.length = m) (hm1 : m ≤ 1000) (hmc : m ≤ c) (hA : A = none → c = 0)
    (hb : ∀ i, i < m → ∃ b off u, A = some ⟨b, off, none⟩ ∧ w.cell? ⟨b, off + i, none⟩ = some u ∧ Gt w u (ms.getD i default))
    (h : ∀ v' w', OwnL B w0 v' (ls ++ ms) w' → w.grownBy w' v.ownBlock → K (a.put o.dst v') w') : o.wp Tryz.prog a w K Q := by
  obtain ⟨us, h1, h2, h3, h4⟩ := hown
  obtain ⟨i0, hi, hz0, hz1, hz2⟩ := info_parts info50
  cases A with
  | none =>
    have hc0 := hA rfl
    subst hc0
    obtain rfl : m = 0 := by omega
    obtain rfl : ms = [] := List.eq_nil_of_length_eq_zero hm
    have hr := run_append_owned_none (P := Tryz.prog) (w := w) B 66 o.type 50 i0 1 Tryz.underlying66 hi v _ _ h1
    unfold Oper.wp execOp
    simp only [ho, resolve, invoke, builtin, Sem.run_bind, Sem.run_pure, Result.andThen_ok, List.map_toArray, List.map_cons, List.map_nil, hs, hx, hr]
    rw [List.append_nil] at h
    exact h v w ⟨us, h1, h2, h3, h4⟩ (World.grownBy.refl _ _)
  | some ad =>
    have hch : ∀ i, i < m → ∃ u, w.cell? (ad.add i) = some u ∧ Gt w u (ms.getD i default) := by
      intro i hi
      obtain ⟨b, off, u, e, hc, hg⟩ := hb i hi
      cases e
      exact ⟨u, by rw [Addr.add_lit]; exact hc, hg⟩
    have hch' : ∃ f : Nat → Value, ∀ i, i < m → w.cell? (ad.add i) = some (f i) ∧ Gt w (f i) (ms.getD i default) := by
      refine ⟨fun i => if hi : i < m then (hch i hi).choose else default, fun i hi => ?_⟩
      simp only [hi, dif_pos]
      exact (hch i hi).choose_spec
    obtain ⟨f, hf⟩ := hch'
    have hlen : ((List.range m).map f).length = m := by simp
    have hr := run_append_own_at (P := Tryz.prog) w B 66 o.type 50 i0 (.slice none 0 0) 1 24 Tryz.underlying66 hi hz0 hz1 hz2 rfl (by omega) v ls.length _ h1 ad m c ((List.range m).map f) (by rw [hlen]; omega) (by
      intro j u hu
      have hj : j < m := by
        have := (List.getElem?_eq_some_iff.1 hu).1
        rwa [hlen] at this
      rw [List.getElem?_map, List.getElem?_range hj] at hu
      simp only [Option.map_some, Option.some.injEq] at hu
      rw [← hu]
      exact (hf j hj).1) (by
      intro u hu
      rw [List.mem_map] at hu
      obtain ⟨i, hi', rfl⟩ := hu
      obtain ⟨A', n', c', e⟩ := (hf i (by simpa using hi')).2.shape
      rw [e]
      rfl) (by unfold maxLen; omega) (by omega) h3
    obtain ⟨v', w', hr, g2, g3, _, g5⟩ := hr
    unfold Oper.wp execOp
    simp only [ho, resolve, invoke, builtin, Sem.run_bind, Sem.run_pure, Result.andThen_ok, List.map_toArray, List.map_cons, List.map_nil, hs, hx, hr]
    have hul : us.length = ls.length := by have := h1.1; omega
    refine h v' w' ⟨us ++ (List.range m).map f, ?_, h2.grown g3 h3 (fun k hk => (h1.lt k hk).1), by have := g3.size; omega, fun i hi => ?_⟩ g3
    · rw [List.length_append, hm]
      exact g2
    · rw [List.length_append, hm] at hi
      by_cases hil : i < ls.length
      · obtain ⟨u, hu, hg⟩ := h4 i hil
        refine ⟨u, by rw [List.getElem?_append_left (by omega)]; exact hu, ?_⟩
        have e : (ls ++ ms).getD i default = ls.getD i default := by simp only [List.getD]; rw [List.getElem?_append_left hil]
        rw [e]
        exact hg.grown g3 (owns26 h1)
      · have him : i - ls.length < m := by omega
        refine ⟨f (i - ls.length), ?_, ?_⟩
        · rw [List.getElem?_append_right (by omega), hul, List.getElem?_map, List.getElem?_range him]
          rfl
        · have e : (ls ++ ms).getD i default = ms.getD (i - ls.length) default := by simp only [List.getD]; rw [List.getElem?_append_right (by omega)]
          rw [e]
          exact (hf _ him).2.grown g3 (owns26 h1)
theorem wpList_appL {ops : Array Oper} {rest : List Oper} {o : Oper} {a : Act} {Q : Exit → Act → World → Prop} (hgd : o.guard = none) (s x : Operand)
    (ho : o.op = .call { callee := .builtin .append, args := #[s, x], argTypes := #[66, 66] })
    (hs : a.eval s = v) (hown : OwnL B w0 v ls w) (hn : ls.length ≤ 1000)
    (A : Option Addr) (m c : Nat) (ms : List (List Sg)) (hx : a.eval x = .slice A m c) (hm : ms.length = m) (hm1 : m ≤ 1000) (hmc : m ≤ c) (hA : A = none → c = 0)
    (hb : ∀ i, i < m → ∃ b off u, A = some ⟨b, off, none⟩ ∧ w.cell? ⟨b, off + i, none⟩ = some u ∧ Gt w u (ms.getD i default))
    (h : ∀ v' w', OwnL B w0 v' (ls ++ ms) w' → w.grownBy w' v.ownBlock → wpList Tryz.prog ops Q rest (a.put o.dst v') w') : wpList Tryz.prog ops Q (o :: rest) a w :=
  wpList_plain hgd fun _ hK => wp_appL s x ho hs hown hn A m c ms hx hm hm1 hmc hA hb fun v' w' h2 h3 => hK _ _ (h v' w' h2 h3)
/-- one new one -/
theorem one_src {u : Value} {l : List Sg} {b : Nat} (hk : w.heap[b]? = some (.cells #[u] 50 (0, 0))) (hu : Gt w u l) : ∀ i, i < 1 → ∃ b' off u', (some (⟨b, 0, none⟩ : Addr)) = some ⟨b', off, none⟩ ∧ w.cell? ⟨b', off + i, none⟩ = some u' ∧ Gt w u' ([l].getD i default) := by
  intro i hi
  obtain rfl : i = 0 := by omega
  exact ⟨b, 0, u, rfl, by rw [blk_cell hk]; rfl, hu⟩
end

/-- append(v, x...) of segments, x perhaps none -/
theorem wp_fewG {o : Oper} {a : Act} {K : Act → World → Prop} {Q : Exit → Act → World → Prop} (w : World) (s x : Operand)
    (ho : o.op = .call { callee := .builtin .append, args := #[s, x], argTypes := #[50, 50] })
    (B : Nat) (w0 : World) (v : Value) (hs : a.eval s = v) (hown : OwnG B w0 v [] w)
    (A : Option Addr) (m c : Nat) (ys : List Sg) (hx : a.eval x = .slice A m c) (hm : ys.length = m) (hm1 : m ≤ 10) (hmc : m ≤ c) (hA : A = none → c = 0)
    (hb : ∀ i, i < m → ∃ b off, A = some ⟨b, off, none⟩ ∧ w.cell? ⟨b, off + i * 2, none⟩ = some (.int .i64 (ys.getD i default).1) ∧ w.cell? ⟨b, off + i * 2 + 1, none⟩ = some (.string (ys.getD i default).2))
    (h : ∀ v' w', OwnG B w0 v' ys w' → w.grownBy w' v.ownBlock → K (a.put o.dst v') w') : o.wp Tryz.prog a w K Q := by
  cases A with
  | none =>
    have hc0 := hA rfl
    subst hc0
    obtain rfl : m = 0 := by omega
    obtain rfl : ys = [] := List.eq_nil_of_length_eq_zero hm
    obtain ⟨i0, hi, hz0, hz1, hz2⟩ := info_parts info49
    have hr := run_append_owned_none (P := Tryz.prog) (w := w) B 50 o.type 49 i0 2 Tryz.underlying50 hi v _ _ hown.1
    unfold Oper.wp execOp
    simp only [ho, resolve, invoke, builtin, Sem.run_bind, Sem.run_pure, Result.andThen_ok, List.map_toArray, List.map_cons, List.map_nil, hs, hx, hr]
    exact h v w hown (World.grownBy.refl _ _)
  | some ad =>
    refine wp_appG w s x ho B w0 v [] hs hown (by simp) ad m c ys hx hm hm1 ?_ (fun v' w' h2 h3 _ => h v' w' h2 h3)
    intro j u hu
    have hj : j < m * 2 := by
      have := (List.getElem?_eq_some_iff.1 hu).1
      rw [sgC_len, hm] at this
      exact this
    obtain ⟨b, off, e, c1, c2⟩ := hb (j / 2) (by omega)
    cases e
    obtain ⟨k1, k2⟩ := sgC_at ys (j / 2) (by omega)
    rw [Addr.add_lit]
    rcases (show j = j / 2 * 2 ∨ j = j / 2 * 2 + 1 by omega) with e | e
    · rw [e, k1] at hu
      rw [e, c1]
      exact hu
    · rw [e, k2] at hu
      rw [e, ← Nat.add_assoc, c2]
      exact hu
theorem wpList_fewG {ops : Array Oper} {rest : List Oper} {o : Oper} {a : Act} {Q : Exit → Act → World → Prop} (w : World) (hgd : o.guard = none) (s x : Operand)
    (ho : o.op = .call { callee := .builtin .append, args := #[s, x], argTypes := #[50, 50] })
    (B : Nat) (w0 : World) (v : Value) (hs : a.eval s = v) (hown : OwnG B w0 v [] w)
    (A : Option Addr) (m c : Nat) (ys : List Sg) (hx : a.eval x = .slice A m c) (hm : ys.length = m) (hm1 : m ≤ 10) (hmc : m ≤ c) (hA : A = none → c = 0)
    (hb : ∀ i, i < m → ∃ b off, A = some ⟨b, off, none⟩ ∧ w.cell? ⟨b, off + i * 2, none⟩ = some (.int .i64 (ys.getD i default).1) ∧ w.cell? ⟨b, off + i * 2 + 1, none⟩ = some (.string (ys.getD i default).2))
    (h : ∀ v' w', OwnG B w0 v' ys w' → w.grownBy w' v.ownBlock → wpList Tryz.prog ops Q rest (a.put o.dst v') w') : wpList Tryz.prog ops Q (o :: rest) a w :=
  wpList_plain hgd fun _ hK => wp_fewG w s x ho B w0 v hs hown A m c ys hx hm hm1 hmc hA hb fun v' w' h2 h3 => hK _ _ (h v' w' h2 h3)
end Go.Proofs.YtnnmbpghkflepaaGreatDoor
