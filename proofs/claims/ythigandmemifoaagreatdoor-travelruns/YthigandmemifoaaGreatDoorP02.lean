/-
  Put together: Small, Own, Spl.
-/
import Derived.Test.YthigandmemifoaaGreatDoorRows
import Derived.Test.YthigandmemifoaaGreatDoorP01
import Derived.WalkKit
import Derived.WalkLawsBesides
import Derived.Lib.Hide
import Derived.PlainAid
import Derived.IntWalk
import Derived.Laws.BitsAllLaws
import Derived.Deep.AppendLies
import Derived.Laws.IdiomStrings
import Derived.OwnWalk
import Derived.Laws.BytesArg
namespace Go.Proofs.YthigandmemifoaaGreatDoor
open Go.RowKit Go.PlainAid
set_option maxRecDepth 100000

set_option maxHeartbeats 800000 in
theorem plainP (c : Int) (w : World) : Calls Tryz.prog 44 #[.int .u8 c] w fun e w' => e = .returned (.bool (pl c)) ∧ w = w' := by
  go_enter Tryz.func44, Tryz.ntmps44
  go_wp2
  all_goals first
    | (have hp : pl c = true := by (unfold pl; exact decide_eq_true (by omega))
       rw [hp]; go_ret; exact ⟨rfl, rfl⟩)
    | (have hp : pl c = (c == 45 || c == 46 || c == 95 || c == 126) := by (rw [Bool.eq_iff_iff]; simp [pl]; omega)
       rw [hp]; go_ret; exact ⟨rfl, rfl⟩)
    | (go_ret; exact ⟨rfl, rfl⟩)

set_option maxHeartbeats 800000 in
theorem plainR (c : Int) (w : World) : Calls Tryz.prog 69 #[.int .u8 c] w fun e w' => e = .returned (.bool (pl c)) ∧ w = w' := by
  go_enter Tryz.func69, Tryz.ntmps69
  go_wp2
  all_goals first
    | (have hp : pl c = true := by (unfold pl; exact decide_eq_true (by omega))
       rw [hp]; go_ret; exact ⟨rfl, rfl⟩)
    | (go_ret; exact ⟨rfl, rfl⟩)
    | (go_ret
       refine ⟨congrArg (fun b => Ending.returned (Value.bool b)) ?_, rfl⟩
       rw [Bool.eq_iff_iff]; simp [pl]; omega)

set_option maxHeartbeats 800000 in
theorem digitP (c : Int) (w : World) (h0 : 0 ≤ c) (h1 : c ≤ 255) : Calls Tryz.prog 104 #[.int .u8 c] w fun e w' => e = .returned (.tuple #[.int .u8 (hv c), .bool (hd c)]) ∧ w = w' := by
  go_enter Tryz.func104, Tryz.ntmps104
  go_wp2
  all_goals first
    | (obtain ⟨e1, e2⟩ := hvs (c := c) (x := c - 48) (by omega)
       rw [e1, e2]; go_ret2; exact ⟨rfl, rfl⟩)
    | (obtain ⟨e1, e2⟩ := hvs (c := c) (x := c - 65 + 10) (by omega)
       rw [e1, e2]; go_ret2; exact ⟨rfl, rfl⟩)
    | (obtain ⟨e1, e2⟩ := hvs (c := c) (x := c - 97 + 10) (by omega)
       rw [e1, e2]; go_ret2; exact ⟨rfl, rfl⟩)
    | (obtain ⟨e1, e2⟩ := hvn (c := c) (by omega)
       rw [e1, e2]; go_ret2; exact ⟨rfl, rfl⟩)

/-- the reference's hex -/
def hx (c : Int) : Int := if hd c then hv c else -1

set_option maxHeartbeats 800000 in
theorem hexR (c : Int) (w : World) (h0 : 0 ≤ c) (h1 : c ≤ 255) : Calls Tryz.prog 70 #[.int .u8 c] w fun e w' => e = .returned (.int .i64 (hx c)) ∧ w = w' := by
  go_enter Tryz.func70, Tryz.ntmps70
  go_wp2
  all_goals first
    | (obtain ⟨e1, e2⟩ := hvs (c := c) (x := c - 48) (by omega)
       rw [hx, e1, e2]; go_ret; exact ⟨rfl, rfl⟩)
    | (obtain ⟨e1, e2⟩ := hvs (c := c) (x := c - 65 + 10) (by omega)
       rw [hx, e1, e2]; go_ret; exact ⟨rfl, rfl⟩)
    | (obtain ⟨e1, e2⟩ := hvs (c := c) (x := c - 97 + 10) (by omega)
       rw [hx, e1, e2]; go_ret; exact ⟨rfl, rfl⟩)
    | (obtain ⟨e1, e2⟩ := hvn (c := c) (by omega)
       rw [hx, e2]; go_ret; exact ⟨rfl, rfl⟩)

/-- what next answers -/
def nxIs (t : ByteArray) : Bool := decide (bt t 0 = 37 ∧ 3 ≤ t.size ∧ hd (bt t 1) = true ∧ hd (bt t 2) = true)
def nxN (t : ByteArray) : Int := if pl (bt t 0) then 1 else if nxIs t then 3 else 0
def nxC (t : ByteArray) : Int := if pl (bt t 0) then bt t 0 else if nxIs t then hv (bt t 1) * 16 + hv (bt t 2) else 0

theorem or8 (a b : Int) (ha : 0 ≤ a ∧ a ≤ 15) (hb : 0 ≤ b ∧ b ≤ 15) : bits BinOp.or IntKind.u8 (a * 16 % 256) b = a * 16 + b := by
  rw [u8_or _ _ (by omega) (by omega) (by omega) (by omega), nat_join 4 _ _ (by omega) (by omega)]
  omega

set_option maxHeartbeats 1600000 in
theorem nextP (t : ByteArray) (w : World) (ht : 1 ≤ t.size) (hbig : t.size ≤ 1000000000) : Calls Tryz.prog 91 #[.string t] w fun e w' => e = .returned (.tuple #[.int .u8 (nxC t), .int .i64 (nxN t)]) ∧ w = w' := by
  have gb := get_bt t
  have p0 : 0 < t.size := by omega
  have q0 : (0 : Int) < (t.size : Int) := by omega
  have b1 := bt_nonneg t 1
  have b2 := bt_le t 1
  have b3 := bt_nonneg t 2
  have b4 := bt_le t 2
  go_enter Tryz.func91, Tryz.ntmps91
  go_wp2_with (first | (go_at_call 44; refine (plainP _ _).mono ?_; rintro e w' ⟨rfl, rfl⟩) | (go_at_call 104; refine (digitP _ _ (by assumption) (by assumption)).mono ?_; rintro e w' ⟨rfl, rfl⟩))
  all_goals first
    | (obtain ⟨e1, e2⟩ : nxC t = bt t 0 ∧ nxN t = 1 := by (have h : pl (bt t 0) = true := by assumption); simp [nxC, nxN, h]
       rw [e1, e2]; go_ret2; exact ⟨rfl, rfl⟩)
    | (obtain ⟨e1, e2⟩ : nxC t = 0 ∧ nxN t = 0 := by
         (have h : pl (bt t 0) = false := by assumption)
         (have h2 : nxIs t = false := by (unfold nxIs; refine decide_eq_false ?_; rintro ⟨a1, a2, a3, a4⟩; first | omega | (simp_all; done)))
         simp [nxC, nxN, h, h2]
       rw [e1, e2]; go_ret2; exact ⟨rfl, rfl⟩)
    | (obtain ⟨e1, e2⟩ : nxC t = bits BinOp.or IntKind.u8 (hv (bt t 1) * 16 % 256) (hv (bt t 2)) ∧ nxN t = 3 := by
         (have h : pl (bt t 0) = false := by assumption)
         (have h3 : (!hd (bt t 2)) = false := by assumption)
         (have h2 : nxIs t = true := by (unfold nxIs; exact decide_eq_true ⟨by assumption, by omega, by assumption, by simpa using h3⟩))
         rw [or8 _ _ (hv_bd _) (hv_bd _)]
         simp [nxC, nxN, h, h2]
       rw [e1, e2]; go_ret2; exact ⟨rfl, rfl⟩)
end Go.Proofs.YthigandmemifoaaGreatDoor

namespace Go.Proofs.YthigandmemifoaaGreatDoor
open Go.RowKit Go.PlainAid
set_option maxRecDepth 100000

theorem info5 : (Tryz.prog.info? 5).map (fun i => (i.zero, i.size, i.bytes)) = some (some (.int .u8 0), 1, 1) := by kernel_rfl

/-- v holds the bytes xs, in a block of the call's own; below B all is as it was in w0 -/
def Own (B : Nat) (w0 : World) (v : Value) (xs : List Int) (w : World) : Prop :=
  w.ownsRow B 5 1 v xs.length (xs.map (Value.int .u8)) ∧ Below B w0 w ∧ B ≤ w.heap.size

theorem Own.alloc {B : Nat} {w0 : World} {v : Value} {xs : List Int} {w : World} (h : Own B w0 v xs w) (o : Obj) : Own B w0 v xs (w.alloc o) :=
  ⟨h.1.alloc o, h.2.1.alloc h.2.2 o, by have := h.2.2; simp; omega⟩
theorem Own.drew {B : Nat} {w0 : World} {v : Value} {xs : List Int} {w : World} (h : Own B w0 v xs w) : Own B w0 v xs w.drew :=
  ⟨h.1.drew, h.2.1.drew, h.2.2⟩
theorem Own.nil (w : World) : Own w.heap.size w (.slice none 0 0) [] w := ⟨World.ownsRow_nil _ _ _ _, Below.refl _ _, Nat.le_refl _⟩

theorem bytes_one (ys : List Int) : ∀ u ∈ (ys.map (Value.int .u8)).toArray.toList, u.oneCell' = true := by
  intro u hu
  simp only [List.mem_map] at hu
  obtain ⟨y, _, rfl⟩ := hu
  rfl

theorem wp_app {o : Oper} {a : Act} {K : Act → World → Prop} {Q : Exit → Act → World → Prop} (w : World) (s x : Operand)
    (ho : o.op = .call { callee := .builtin .append, args := #[s, x], argTypes := #[74, 74] })
    (B : Nat) (w0 : World) (v : Value) (xs : List Int) (hs : a.eval s = v) (hown : Own B w0 v xs w) (hn : xs.length ≤ 1000000000)
    (b m c : Nat) (ys : List Int) (hx : a.eval x = .slice (some ⟨b, 0, none⟩) m c) (hm : ys.length = m) (hm1 : m ≤ 10) (hb : w.heap[b]? = some (.cells (ys.map (Value.int .u8)).toArray 5 (0, 0)))
    (h : ∀ v' w', Own B w0 v' (xs ++ ys) w' → K (a.put o.dst v') w') : o.wp Tryz.prog a w K Q := by
  obtain ⟨i0, hi, hz0, hz1, hz2⟩ := info_parts info5
  refine wp_append_own w s x 74 ho B 5 i0 (.int .u8 0) 1 1 Tryz.underlying74 hi hz0 hz1 hz2 rfl (by omega) v xs.length _ hs hown.1 ⟨b, 0, none⟩ m c (ys.map (Value.int .u8)).toArray.toList hx (by simp [hm]) (World.news_of_block hb) (bytes_one ys) (by unfold maxLen; omega) (by omega) hown.2.2 ?_
  intro v' w' h2 h3 _
  refine h v' w' ⟨?_, hown.2.1.grown h3 hown.2.2 (fun k hk => (hown.1.lt k hk).1), by have := h3.size; have := hown.2.2; omega⟩
  have e : (xs ++ ys).length = xs.length + m := by simp [hm]
  rw [e, List.map_append]
  exact h2

theorem wpList_app {ops : Array Oper} {rest : List Oper} {o : Oper} {a : Act} {Q : Exit → Act → World → Prop} (w : World) (hgd : o.guard = none) (s x : Operand)
    (ho : o.op = .call { callee := .builtin .append, args := #[s, x], argTypes := #[74, 74] })
    (B : Nat) (w0 : World) (v : Value) (xs : List Int) (hs : a.eval s = v) (hown : Own B w0 v xs w) (hn : xs.length ≤ 1000000000)
    (b m c : Nat) (ys : List Int) (hx : a.eval x = .slice (some ⟨b, 0, none⟩) m c) (hm : ys.length = m) (hm1 : m ≤ 10) (hb : w.heap[b]? = some (.cells (ys.map (Value.int .u8)).toArray 5 (0, 0)))
    (h : ∀ v' w', Own B w0 v' (xs ++ ys) w' → wpList Tryz.prog ops Q rest (a.put o.dst v') w') : wpList Tryz.prog ops Q (o :: rest) a w :=
  wpList_plain hgd fun _ hK => wp_app w s x ho B w0 v xs hs hown hn b m c ys hx hm hm1 hb fun v' w' h2 => hK _ _ (h v' w' h2)

theorem step_app {ops : Array Oper} {o : Oper} {a : Act} {K : Act → World → Prop} {Q : Exit → Act → World → Prop} {F : Prop} (w : World) (hw : Region.wanted o (yielded ops a.tmps) = true) (s x : Operand)
    (ho : o.op = .call { callee := .builtin .append, args := #[s, x], argTypes := #[74, 74] })
    (B : Nat) (w0 : World) (v : Value) (xs : List Int) (hs : a.eval s = v) (hown : Own B w0 v xs w) (hn : xs.length ≤ 1000000000)
    (b m c : Nat) (ys : List Int) (hx : a.eval x = .slice (some ⟨b, 0, none⟩) m c) (hm : ys.length = m) (hm1 : m ≤ 10) (hb : w.heap[b]? = some (.cells (ys.map (Value.int .u8)).toArray 5 (0, 0)))
    (h : ∀ v' w', Own B w0 v' (xs ++ ys) w' → K (a.put o.dst v') w') :
    if Region.wanted o (yielded ops a.tmps) = true then Oper.wp Tryz.prog o a w K Q else F := by
  rw [if_pos hw]
  exact wp_app w s x ho B w0 v xs hs hown hn b m c ys hx hm hm1 hb h

/-- make([]byte, 0, n) -/
theorem wpList_mk {ops : Array Oper} {rest : List Oper} {o : Oper} {a : Act} {Q : Exit → Act → World → Prop} (w : World) (hg : o.guard = none) (l c : Operand) (hop : o.op = Op.makeSlice 74 l c)
    (C : Int) (n : Nat) (hl : a.eval l = .int .i64 0) (hc : a.eval c = .int .i64 C) (hC : C = (n : Int)) (hn : n ≤ 1000000000)
    (hK : ∀ v w', Own w.heap.size w v [] w' → wpList Tryz.prog ops Q rest (a.put o.dst v) w') : wpList Tryz.prog ops Q (o :: rest) a w := by
  obtain ⟨i0, hi, hz0, hz1, hz2⟩ := info_parts info5
  refine wpList_make_own w hg l c 74 hop w.heap.size 5 i0 (.int .u8 0) 1 Tryz.underlying74 hi hz0 hz1 .i64 .i64 C n hl hc hC (by rw [hz2]; omega) (by unfold maxLen; omega) (Nat.le_refl _) ?_
  intro w' h1 h2
  exact hK _ w' ⟨h1, (Below.refl _ w).grown h2 (Nat.le_refl _) (fun k hk => by cases hk), h2.size⟩

/-- string(v) -/
theorem own_text {B : Nat} {w0 : World} {v : Value} {xs : List Int} {w : World} (h : Own B w0 v xs w) : (convert 74 9 v).run Tryz.prog w = .ok (.string (st xs)) w := by
  obtain ⟨hl, h1 | ⟨g, cap, cur, rfl, _, hb, _, _, _, ht⟩⟩ := h.1
  · obtain ⟨rfl, hn⟩ := h1
    obtain rfl : xs = [] := List.eq_nil_of_length_eq_zero hn
    exact run_convert_bytes_nil w 74 5 Tryz.underlying74 Tryz.underlying5 0 0 9 Tryz.underlying9
  · refine run_convert_bytes_arg w 74 5 Tryz.underlying74 Tryz.underlying5 g 0 xs.length cap xs rfl ?_ 9 Tryz.underlying9
    intro i hi
    have := h.1.cells rfl i (.int .u8 (xs.getD i 0)) (by simp [List.getD, hi])
    rw [Addr.add_lit] at this
    exact this

/-- the text of one new byte -/
theorem one_text (w : World) (b cap : Nat) (c : Int) (h : w.cell? ⟨b, 0, none⟩ = some (.int .u8 c)) : (convert 74 9 (.slice (some ⟨b, 0, none⟩) 1 cap)).run Tryz.prog w = .ok (.string (st [c])) w := by
  refine run_convert_bytes_arg w 74 5 Tryz.underlying74 Tryz.underlying5 b 0 1 cap [c] rfl ?_ 9 Tryz.underlying9
  intro i hi
  obtain rfl : i = 0 := by omega
  exact h
end Go.Proofs.YthigandmemifoaaGreatDoor

namespace Go.Proofs.YthigandmemifoaaGreatDoor
open Go.PlainAid

/-- what stands between the marks -/
def splL (m : Int) : List Int → List (List Int)
  | [] => [[]]
  | c :: r => if c = m then [] :: splL m r else
    match splL m r with
    | [] => [[c]]
    | p :: ps => (c :: p) :: ps
/-- the same of a text -/
def spl (m : Int) (s : ByteArray) : List ByteArray := (splL m (bs s)).map st

theorem splL_ne (m : Int) (l : List Int) : 1 ≤ (splL m l).length := by
  cases l with
  | nil => simp [splL]
  | cons c r =>
    rw [splL]
    split
    · simp
    · split <;> simp
theorem splL_mark (m : Int) (p r : List Int) (h : ∀ x ∈ p, x ≠ m) : splL m (p ++ m :: r) = p :: splL m r := by
  induction p with
  | nil => simp [splL]
  | cons c p ih =>
    have hc : c ≠ m := h c (by simp)
    rw [List.cons_append, splL, if_neg hc, ih (fun x hx => h x (by simp [hx]))]
theorem splL_none (m : Int) (p : List Int) (h : ∀ x ∈ p, x ≠ m) : splL m p = [p] := by
  induction p with
  | nil => simp [splL]
  | cons c p ih =>
    have hc : c ≠ m := h c (by simp)
    rw [splL, if_neg hc, ih (fun x hx => h x (by simp [hx]))]
theorem spl_ne (m : Int) (s : ByteArray) : 1 ≤ (spl m s).length := by rw [spl, List.length_map]; exact splL_ne m _

/-- the first k bytes are looked at, those from a on bear no mark, P are the pieces so far -/
def SpMid (s : ByteArray) (m : Int) (a k : Nat) (P : List ByteArray) : Prop :=
  a ≤ k ∧ k ≤ s.size ∧ P.length ≤ k ∧ (∀ j, a ≤ j → j < k → bt s j ≠ m) ∧ spl m s = P ++ (splL m ((bs s).drop a)).map st
theorem spm_zero (s : ByteArray) (m : Int) : SpMid s m 0 0 [] := ⟨by omega, by omega, by simp, fun j h1 h2 => by omega, by simp [spl]⟩
theorem spm_skip {s : ByteArray} {m : Int} {a k : Nat} {P : List ByteArray} (h : SpMid s m a k P) (hk : k < s.size) (hm : bt s k ≠ m) : SpMid s m a (k + 1) P := by
  obtain ⟨h1, h2, h0, h3, h4⟩ := h
  refine ⟨by omega, by omega, by omega, fun j hj1 hj2 => ?_, h4⟩
  by_cases e : j = k
  · subst e; exact hm
  · exact h3 j hj1 (by omega)
theorem no_mark {s : ByteArray} {m : Int} {a k : Nat} (h3 : ∀ j, a ≤ j → j < k → bt s j ≠ m) : ∀ x ∈ ((bs s).drop a).take (k - a), x ≠ m := by
  intro x hx
  rw [List.mem_take_iff_getElem] at hx
  obtain ⟨i, hi, rfl⟩ := hx
  simp only [List.length_drop] at hi
  rw [List.getElem_drop]
  have e : (bs s)[a + i]'(by omega) = bt s (a + i) := by
    rw [← bs_at]
    simp [List.getD, show a + i < (bs s).length by omega]
  rw [e]
  exact h3 _ (by omega) (by omega)
theorem spm_mark {s : ByteArray} {m : Int} {a k : Nat} {P : List ByteArray} (h : SpMid s m a k P) (hk : k < s.size) (hm : bt s k = m) : SpMid s m (k + 1) (k + 1) (P ++ [s.extract a k]) := by
  obtain ⟨h1, h2, h0, h3, h4⟩ := h
  refine ⟨by omega, by omega, by simp; omega, fun j hj1 hj2 => by omega, ?_⟩
  have hl := bs_len s
  have e : (bs s).drop a = ((bs s).drop a).take (k - a) ++ m :: (bs s).drop (k + 1) := by
    conv => lhs; rw [← List.take_append_drop (k - a) ((bs s).drop a)]
    rw [List.drop_drop, show a + (k - a) = k by omega, drop_cons (show k < (bs s).length by omega), bs_at, hm]
  rw [h4, e, splL_mark m _ _ (no_mark h3), List.map_cons, ← bs_extract, st_bs]
  simp
theorem spm_end {s : ByteArray} {m : Int} {a : Nat} {P : List ByteArray} (h : SpMid s m a s.size P) : spl m s = P ++ [s.extract a s.size] := by
  obtain ⟨h1, h2, h0, h3, h4⟩ := h
  have hl := bs_len s
  have e : (bs s).drop a = ((bs s).drop a).take (s.size - a) := by
    rw [List.take_of_length_le]
    rw [List.length_drop]; omega
  rw [h4, e, splL_none m _ (no_mark h3), ← bs_extract]
  simp [st_bs]
theorem spm_len {s : ByteArray} {m : Int} {a k : Nat} {P : List ByteArray} (h : SpMid s m a k P) : P.length + 1 ≤ (spl m s).length := by
  rw [h.2.2.2.2, List.length_append, List.length_map]
  have := splL_ne m ((bs s).drop a)
  omega
theorem spl_len (m : Int) (s : ByteArray) : (spl m s).length ≤ s.size + 1 := by
  have : ∀ l : List Int, (splL m l).length ≤ l.length + 1 := by
    intro l
    induction l with
    | nil => simp [splL]
    | cons c r ih =>
      rw [splL]
      split
      · simp; omega
      · split <;> simp_all <;> omega
  rw [spl, List.length_map]
  have h := this (bs s)
  rw [bs_len] at h
  exact h
theorem spl_size (m : Int) (s p : ByteArray) (hp : p ∈ spl m s) : p.size ≤ s.size := by
  have : ∀ l : List Int, ∀ q ∈ splL m l, q.length ≤ l.length := by
    intro l
    induction l with
    | nil => intro q hq; simp [splL] at hq; simp [hq]
    | cons c r ih =>
      intro q hq
      rw [splL] at hq
      split at hq
      · simp only [List.mem_cons] at hq
        rcases hq with rfl | hq
        · simp
        · have := ih q hq; simp; omega
      · split at hq
        · simp at hq; simp [hq]
        · rename_i p ps hps
          rw [hps] at ih
          simp only [List.mem_cons] at hq
          rcases hq with rfl | hq
          · have := ih p (by simp); simp; omega
          · have := ih q (by simp [hq]); simp; omega
  rw [spl, List.mem_map] at hp
  obtain ⟨q, hq, rfl⟩ := hp
  have := this _ q hq
  rw [bs_len] at this
  rw [st_size]
  exact this
end Go.Proofs.YthigandmemifoaaGreatDoor
