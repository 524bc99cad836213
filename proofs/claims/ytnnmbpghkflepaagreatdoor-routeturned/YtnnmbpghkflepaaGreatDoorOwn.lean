/-
  A []byte of the call's own: making one, appending to it, its text.
-/
import Derived.Test.YtnnmbpghkflepaaGreatDoorSmall
import Derived.Deep.AppendLies
import Derived.Laws.IdiomStrings
import Derived.OwnWalk
import Derived.Laws.BytesArg
namespace Go.Proofs.YtnnmbpghkflepaaGreatDoor
open Go.RowKit Go.PlainAid
set_option maxRecDepth 100000

theorem info5 : (Tryz.prog.info? 5).map (fun i => (i.zero, i.size, i.bytes)) = some (some (.int .u8 0), 1, 1) := by kernel_rfl

/-- v holds the bytes xs, in a block of the call's own; below B all is as it was in w0 -/
def Own (B : Nat) (w0 : World) (v : Value) (xs : List Int) (w : World) : Prop :=
  w.ownsRow B 5 1 v xs.length (xs.map (Value.int .u8)) ∧ Below B w0 w ∧ B ≤ w.heap.size

theorem Own.alloc {B : Nat} {w0 : World} {v : Value} {xs : List Int} {w : World} (h : Own B w0 v xs w) (o : Obj) : Own B w0 v xs (w.alloc o) :=
  ⟨h.1.alloc o, h.2.1.alloc h.2.2 o, by have := h.2.2; simp; omega⟩
theorem Own.drew {B : Nat} {w0 : World} {v : Value} {xs : List Int} {w : World} (h : Own B w0 v xs w) : Own B w0 v xs w.drew :=
  ⟨h.1.drew, h.2.1.drew, h.2.2⟩
theorem Own.nil (w : World) : Own w.heap.size w (.slice none 0 0) [] w := ⟨World.ownsRow_nil _ _ _ _, Below.refl _ _, Nat.le_refl _⟩

theorem bytes_one (ys : List Int) : ∀ u ∈ (ys.map (Value.int .u8)).toArray.toList, u.oneCell' = true := by
  intro u hu
  simp only [List.mem_map] at hu
  obtain ⟨y, _, rfl⟩ := hu
  rfl

theorem wp_app {o : Oper} {a : Act} {K : Act → World → Prop} {Q : Exit → Act → World → Prop} (w : World) (s x : Operand)
    (ho : o.op = .call { callee := .builtin .append, args := #[s, x], argTypes := #[61, 61] })
    (B : Nat) (w0 : World) (v : Value) (xs : List Int) (hs : a.eval s = v) (hown : Own B w0 v xs w) (hn : xs.length ≤ 1000000000)
    (b m c : Nat) (ys : List Int) (hx : a.eval x = .slice (some ⟨b, 0, none⟩) m c) (hm : ys.length = m) (hm1 : m ≤ 10) (hb : w.heap[b]? = some (.cells (ys.map (Value.int .u8)).toArray 5 (0, 0)))
    (h : ∀ v' w', Own B w0 v' (xs ++ ys) w' → K (a.put o.dst v') w') : o.wp Tryz.prog a w K Q := by
  obtain ⟨i0, hi, hz0, hz1, hz2⟩ := info_parts info5
  refine wp_append_own w s x 61 ho B 5 i0 (.int .u8 0) 1 1 Tryz.underlying61 hi hz0 hz1 hz2 rfl (by omega) v xs.length _ hs hown.1 ⟨b, 0, none⟩ m c (ys.map (Value.int .u8)).toArray.toList hx (by simp [hm]) (World.news_of_block hb) (bytes_one ys) (by unfold maxLen; omega) (by omega) hown.2.2 ?_
  intro v' w' h2 h3 _
  refine h v' w' ⟨?_, hown.2.1.grown h3 hown.2.2 (fun k hk => (hown.1.lt k hk).1), by have := h3.size; have := hown.2.2; omega⟩
  have e : (xs ++ ys).length = xs.length + m := by simp [hm]
  rw [e, List.map_append]
  exact h2

theorem wpList_app {ops : Array Oper} {rest : List Oper} {o : Oper} {a : Act} {Q : Exit → Act → World → Prop} (w : World) (hgd : o.guard = none) (s x : Operand)
    (ho : o.op = .call { callee := .builtin .append, args := #[s, x], argTypes := #[61, 61] })
    (B : Nat) (w0 : World) (v : Value) (xs : List Int) (hs : a.eval s = v) (hown : Own B w0 v xs w) (hn : xs.length ≤ 1000000000)
    (b m c : Nat) (ys : List Int) (hx : a.eval x = .slice (some ⟨b, 0, none⟩) m c) (hm : ys.length = m) (hm1 : m ≤ 10) (hb : w.heap[b]? = some (.cells (ys.map (Value.int .u8)).toArray 5 (0, 0)))
    (h : ∀ v' w', Own B w0 v' (xs ++ ys) w' → wpList Tryz.prog ops Q rest (a.put o.dst v') w') : wpList Tryz.prog ops Q (o :: rest) a w :=
  wpList_plain hgd fun _ hK => wp_app w s x ho B w0 v xs hs hown hn b m c ys hx hm hm1 hb fun v' w' h2 => hK _ _ (h v' w' h2)

theorem step_app {ops : Array Oper} {o : Oper} {a : Act} {K : Act → World → Prop} {Q : Exit → Act → World → Prop} {F : Prop} (w : World) (hw : Region.wanted o (yielded ops a.tmps) = true) (s x : Operand)
    (ho : o.op = .call { callee := .builtin .append, args := #[s, x], argTypes := #[61, 61] })
    (B : Nat) (w0 : World) (v : Value) (xs : List Int) (hs : a.eval s = v) (hown : Own B w0 v xs w) (hn : xs.length ≤ 1000000000)
    (b m c : Nat) (ys : List Int) (hx : a.eval x = .slice (some ⟨b, 0, none⟩) m c) (hm : ys.length = m) (hm1 : m ≤ 10) (hb : w.heap[b]? = some (.cells (ys.map (Value.int .u8)).toArray 5 (0, 0)))
    (h : ∀ v' w', Own B w0 v' (xs ++ ys) w' → K (a.put o.dst v') w') :
    if Region.wanted o (yielded ops a.tmps) = true then Oper.wp Tryz.prog o a w K Q else F := by
  rw [if_pos hw]
  exact wp_app w s x ho B w0 v xs hs hown hn b m c ys hx hm hm1 hb h

/-- make([]byte, 0, n) -/
theorem wpList_mk {ops : Array Oper} {rest : List Oper} {o : Oper} {a : Act} {Q : Exit → Act → World → Prop} (w : World) (hg : o.guard = none) (l c : Operand) (hop : o.op = Op.makeSlice 61 l c)
    (C : Int) (n : Nat) (hl : a.eval l = .int .i64 0) (hc : a.eval c = .int .i64 C) (hC : C = (n : Int)) (hn : n ≤ 1000000000)
    (hK : ∀ v w', Own w.heap.size w v [] w' → wpList Tryz.prog ops Q rest (a.put o.dst v) w') : wpList Tryz.prog ops Q (o :: rest) a w := by
  obtain ⟨i0, hi, hz0, hz1, hz2⟩ := info_parts info5
  refine wpList_make_own w hg l c 61 hop w.heap.size 5 i0 (.int .u8 0) 1 Tryz.underlying61 hi hz0 hz1 .i64 .i64 C n hl hc hC (by rw [hz2]; omega) (by unfold maxLen; omega) (Nat.le_refl _) ?_
  intro w' h1 h2
  exact hK _ w' ⟨h1, (Below.refl _ w).grown h2 (Nat.le_refl _) (fun k hk => by cases hk), h2.size⟩

/-- string(v) -/
theorem own_text {B : Nat} {w0 : World} {v : Value} {xs : List Int} {w : World} (h : Own B w0 v xs w) : (convert 61 9 v).run Tryz.prog w = .ok (.string (st xs)) w := by
  obtain ⟨hl, h1 | ⟨g, cap, cur, rfl, _, hb, _, _, _, ht⟩⟩ := h.1
  · obtain ⟨rfl, hn⟩ := h1
    obtain rfl : xs = [] := List.eq_nil_of_length_eq_zero hn
    exact run_convert_bytes_nil w 61 5 Tryz.underlying61 Tryz.underlying5 0 0 9 Tryz.underlying9
  · refine run_convert_bytes_arg w 61 5 Tryz.underlying61 Tryz.underlying5 g 0 xs.length cap xs rfl ?_ 9 Tryz.underlying9
    intro i hi
    have := h.1.cells rfl i (.int .u8 (xs.getD i 0)) (by simp [List.getD, hi])
    rw [Addr.add_lit] at this
    exact this

/-- the text of one new byte -/
theorem one_text (w : World) (b cap : Nat) (c : Int) (h : w.cell? ⟨b, 0, none⟩ = some (.int .u8 c)) : (convert 61 9 (.slice (some ⟨b, 0, none⟩) 1 cap)).run Tryz.prog w = .ok (.string (st [c])) w := by
  refine run_convert_bytes_arg w 61 5 Tryz.underlying61 Tryz.underlying5 b 0 1 cap [c] rfl ?_ 9 Tryz.underlying9
  intro i hi
  obtain rfl : i = 0 := by omega
  exact h
end Go.Proofs.YtnnmbpghkflepaaGreatDoor
