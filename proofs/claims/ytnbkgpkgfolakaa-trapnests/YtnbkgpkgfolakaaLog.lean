/-
  A variable of type []int that grows by append, in blocks of the call's own; sink, and TrapCatches' two closures.
-/
import Derived.Test.YtnbkgpkgfolakaaTrap
import Derived.Deep.AppendLies
import Derived.IntWalk
namespace Go.Proofs.Ytnbkgpkgfolakaa
open Go.RowKit

theorem info3 : (Try.prog.info? 3).map (fun i => (i.zero, i.size, i.bytes)) = some (some (.int .i64 0), 1, 8) := by kernel_rfl

/-- What lies in a block that stands is owned as it was. -/
theorem owns_block {w w' : World} {B e s g n cap : Nat} {xs : List Value} (h : w.ownsRow B e s (.slice (some ⟨g, 0, none⟩) n cap) n xs) (hb : w'.heap[g]? = w.heap[g]?) :
    w'.ownsRow B e s (.slice (some ⟨g, 0, none⟩) n cap) n xs := by
  obtain ⟨h1, h2⟩ := h
  refine ⟨h1, ?_⟩
  rcases h2 with ⟨h2, _⟩ | ⟨g', cap', cur, hv, hB, hh, r⟩
  · cases h2
  · cases hv
    exact Or.inr ⟨g, cap, cur, rfl, hB, hb.trans hh, r⟩

/-- A variable of type []int in block L, whose value lies in the block g of the call's own and holds xs. -/
structure LogAt (L B g n cap : Nat) (xs : List Value) (w : World) : Prop where
  var : w.heap[L]? = some (.cells #[.slice (some ⟨g, 0, none⟩) n cap] 31 (0, 0))
  own : w.ownsRow B 3 1 (.slice (some ⟨g, 0, none⟩) n cap) n xs
  ne : g ≠ L
  low : B ≤ L

theorem LogAt.lt {L B g n cap : Nat} {xs : List Value} {w : World} (h : LogAt L B g n cap xs w) : g < w.heap.size := (h.own.lt g rfl).2
theorem LogAt.base {L B g n cap : Nat} {xs : List Value} {w : World} (h : LogAt L B g n cap xs w) : B ≤ w.heap.size := by have := h.low; have := blk_lt h.var; omega

/-- It stands where other blocks turn. -/
theorem LogAt.kp {L B g n cap : Nat} {xs : List Value} {w w' : World} {S : Nat → Prop} (h : LogAt L B g n cap xs w) (hk : Kp S w w') (h1 : ¬ S L) (h2 : ¬ S g) : LogAt L B g n cap xs w' where
  var := (hk.block L (blk_lt h.var) h1).trans h.var
  own := owns_block h.own (hk.block g h.lt h2)
  ne := h.ne
  low := h.low

/-- append's law, on a list of ints of the call's own. -/
theorem wpList_log {ops : Array Oper} {rest : List Oper} {o : Oper} {a : Act} {Q : Exit → Act → World → Prop} (w : World) (hgd : o.guard = none) (s x : Operand)
    (ho : o.op = .call { callee := .builtin .append, args := #[s, x], argTypes := #[31, 31] })
    (B g n cap : Nat) (xs : List Value) (hs : a.eval s = .slice (some ⟨g, 0, none⟩) n cap) (hown : w.ownsRow B 3 1 (.slice (some ⟨g, 0, none⟩) n cap) n xs) (hn : n ≤ 1000) (hB : B ≤ w.heap.size)
    (b m c : Nat) (news : Array Value) (hx : a.eval x = .slice (some ⟨b, 0, none⟩) m c) (hm : news.size = m) (hm0 : 0 < m) (hm1 : m ≤ 10) (hb : w.heap[b]? = some (.cells news 3 (0, 0))) (h1 : ∀ u ∈ news.toList, u.oneCell' = true)
    (H : Nat) (hH : w.heap.size = H)
    (h : ∀ g' cap' w', w'.ownsRow B 3 1 (.slice (some ⟨g', 0, none⟩) (n + m) cap') (n + m) (xs ++ news.toList) → w.grownBy w' (some g) → (g' = g ∨ g' = H) → g' < w'.heap.size → wpList Try.prog ops Q rest (a.put o.dst (.slice (some ⟨g', 0, none⟩) (n + m) cap')) w') :
    wpList Try.prog ops Q (o :: rest) a w := by
  obtain ⟨i0, hi, hz0, hz1, hz2⟩ := info_parts info3
  refine wpList_append_lies w hgd s x 31 ho B 3 i0 (.int .i64 0) 1 8 Try.underlying31 hi hz0 hz1 hz2 rfl (by omega) _ n xs hs hown ⟨b, 0, none⟩ m c news.toList hx (by simp [hm]) (World.news_of_block hb) h1 hm0 (by unfold maxLen; omega) (by omega) hB H hH ?_
  intro g' cap' w' h2 h3 h4 h5
  exact h g' cap' w' h2 h3 (by rcases h4 with h4 | h4; · left; simpa [Value.ownBlock] using h4.symm
                               · exact Or.inr h4) h5

/-- what an append and the store behind it leave -/
def Logged (L B g : Nat) (n : Nat) (xs : List Value) (w w' : World) : Prop :=
  ∃ g' cap', LogAt L B g' n cap' xs w' ∧ Kp (fun k => k = L ∨ k = g) w w' ∧ (g' = g ∨ w.heap.size ≤ g')

theorem logged_trans {L B g g2 m : Nat} {zs : List Value} {w wa wb : World} (hk : Kp (fun k => k = L ∨ k = g) w wa) (hg : g2 = g ∨ w.heap.size ≤ g2) (h : Logged L B g2 m zs wa wb) : Logged L B g m zs w wb := by
  obtain ⟨g3, cap3, hl, hk2, hg2⟩ := h
  have := hk.size
  refine ⟨g3, cap3, hl, hk.trans hk2 (fun i hi t => by omega), by omega⟩

/-- the append's world, stored into the variable -/
theorem logged_of {L B g n cap : Nat} {xs : List Value} {w w1 : World} {o : Obj} {m g' cap' : Nat} {ys : List Value} (h : LogAt L B g n cap xs w)
    (hown : w1.ownsRow B 3 1 (.slice (some ⟨g', 0, none⟩) m cap') m ys) (hg : (w.alloc o).grownBy w1 (some g)) (hat : g' = g ∨ g' = w.heap.size + 1) :
    Logged L B g m ys w (w1.setCell ⟨L, 0, none⟩ (.slice (some ⟨g', 0, none⟩) m cap')) := by
  have hL := blk_lt h.var
  have hgL := h.ne
  have hlt := h.lt
  have hv : w1.heap[L]? = some (.cells #[.slice (some ⟨g, 0, none⟩) n cap] 31 (0, 0)) := (hg.block L (by simp; omega) (by simp; omega)).trans (blk_alloc h.var o)
  have hk : Kp (fun k => k = L ∨ k = g) w w1 := ((Kp.refl _ w).alloc o).grown hg (fun k _ e => Or.inr (by simpa using e.symm))
  refine ⟨g', cap', ⟨by simpa using blk_setCell hv 0 (.slice (some ⟨g', 0, none⟩) m cap'), ?_, by omega, h.low⟩, hk.setCell (fun _ => Or.inl rfl) _, by omega⟩
  exact owns_block hown (Below.heap_setCell _ _ _ _ (by show g' ≠ L; omega))

/-- the variable's cell in the append's world -/
theorem logged_cell {L B g n cap : Nat} {xs : List Value} {w w1 : World} {o : Obj} (h : LogAt L B g n cap xs w) (hg : (w.alloc o).grownBy w1 (some g)) :
    w1.cell? ⟨L, 0, none⟩ = some (.slice (some ⟨g, 0, none⟩) n cap) ∧ w1.frozen? ⟨L, 0, none⟩ = false := by
  have hL := blk_lt h.var
  have hgL := h.ne
  have hv : w1.heap[L]? = some (.cells #[.slice (some ⟨g, 0, none⟩) n cap] 31 (0, 0)) := (hg.block L (by simp; omega) (by simp; omega)).trans (blk_alloc h.var o)
  exact ⟨blk_cell hv 0, blk_frozen hv 0⟩

set_option maxHeartbeats 400000 in
theorem closure15 (L B g n cap : Nat) (xs : List Value) (w : World) (h : LogAt L B g n cap xs w) (hn : n ≤ 1000) :
    Calls Try.prog 15 #[.pointer (some ⟨L, 0, none⟩)] w fun e w' => e = .returned (.tuple #[]) ∧ Logged L B g (n + 1) (xs ++ [.int .i64 (-5)]) w w' := by
  have H := Lib.hid h
  have c0 : w.cell? ⟨L, 0, none⟩ = some (.slice (some ⟨g, 0, none⟩) n cap) := blk_cell h.var 0
  have hL : L < w.heap.size := blk_lt h.var
  have hB := h.base
  clear h
  go_enter Try.func15, Try.ntmps15
  go_wp2_with (at_builtin; refine wpList_log _ rfl (.tmp 1) (.tmp 2) rfl B g n cap xs (by rfl) (H.out.own.alloc _) hn (by simp; omega) w.heap.size 1 1 #[.int .i64 (-5)] (by rfl) rfl (by omega) (by omega) (blk_new _ _) (by simp [Value.oneCell']) (w.heap.size + 1) (by simp) ?_)
  intro g' cap' w1 hown hgrow hat hlt
  obtain ⟨k0, k1⟩ := logged_cell H.out hgrow
  have hfin := Lib.hid (logged_of H.out hown hgrow hat)
  clear hown hgrow hat hlt
  go_wp2
  go_end0
  exact ⟨rfl, hfin.out⟩

/-- d, d - 1, .., 0 -/
def down : Nat → List Value
  | 0 => [.int .i64 0]
  | d + 1 => .int .i64 ((d + 1 : Nat) : Int) :: down d
theorem down_length (d : Nat) : (down d).length = d + 1 := by induction d <;> simp_all [down]

set_option maxHeartbeats 1000000 in
theorem sink_any (d : Nat) : ∀ (L B g n cap : Nat) (xs : List Value) (er at_ : Int) (note : ByteArray) (w : World), LogAt L B g n cap xs w → d ≤ 20 → n + d ≤ 1000 →
    Calls Try.prog 14 #[.pointer (some ⟨L, 0, none⟩), .int .i64 d, .int .i64 er, .string note, .int .i64 at_] w fun e w' => e = .panicked (thr er note at_) ∧ Logged L B g (n + (d + 1)) (xs ++ down d) w w' := by
  induction d with
  | zero =>
    intro L B g n cap xs er at_ note w h hd hn
    have H := Lib.hid h
    have c0 : w.cell? ⟨L, 0, none⟩ = some (.slice (some ⟨g, 0, none⟩) n cap) := blk_cell h.var 0
    have hL : L < w.heap.size := blk_lt h.var
    have hB := h.base
    clear h
    go_enter Try.func14, Try.ntmps14
    go_wp2_with (at_builtin; refine wpList_log _ rfl (.tmp 13) (.tmp 15) rfl B g n cap xs (by rfl) (H.out.own.alloc _) (by omega) (by simp; omega) w.heap.size 1 1 #[.int .i64 0] (by rfl) rfl (by omega) (by omega) (blk_new _ _) (by simp [Value.oneCell']) (w.heap.size + 1) (by simp) ?_)
    intro g' cap' w1 hown hgrow hat hlt
    obtain ⟨k0, k1⟩ := logged_cell H.out hgrow
    have hfin := Lib.hid (logged_of H.out hown hgrow hat)
    clear hown hgrow hat hlt
    go_wp2_with fail
    refine (must_no _ _ _ _).mono ?_
    rintro e w' ⟨rfl, rfl⟩
    exact ⟨rfl, rfl, hfin.out⟩
  | succ d ih =>
    intro L B g n cap xs er at_ note w h hd hn
    have H := Lib.hid h
    have IH := Lib.hid ih
    have c0 : w.cell? ⟨L, 0, none⟩ = some (.slice (some ⟨g, 0, none⟩) n cap) := blk_cell h.var 0
    have hL : L < w.heap.size := blk_lt h.var
    have hB := h.base
    clear h ih
    go_enter Try.func14, Try.ntmps14
    go_wp2_with (at_builtin; refine wpList_log _ rfl (.tmp 13) (.tmp 15) rfl B g n cap xs (by rfl) (H.out.own.alloc _) (by omega) (by simp; omega) w.heap.size 1 1 #[.int .i64 ((d + 1 : Nat) : Int)] (by rfl) rfl (by omega) (by omega) (blk_new _ _) (by simp [Value.oneCell']) (w.heap.size + 1) (by simp) ?_)
    intro g' cap' w1 hown hgrow hat hlt
    obtain ⟨k0, k1⟩ := logged_cell H.out hgrow
    have hfin := Lib.hid (logged_of H.out hown hgrow hat)
    clear hown hgrow hat hlt
    go_wp2_with fail
    obtain ⟨g2, cap2, hl, hk, hg⟩ := hfin.out
    refine (IH.out L B g2 (n + 1) cap2 _ er at_ note _ hl (by omega) (by omega)).mono ?_
    rintro e w' ⟨rfl, hm⟩
    refine ⟨rfl, rfl, ?_⟩
    have := logged_trans hk hg hm
    simpa [down, Nat.add_comm, Nat.add_left_comm, Nat.add_assoc] using this

set_option maxHeartbeats 400000 in
theorem closure13 (L D E N A B g n cap d : Nat) (xs : List Value) (er at_ : Int) (note : ByteArray) (w : World) (h : LogAt L B g n cap xs w) (hd : d ≤ 20) (hn : n + d ≤ 1000)
    (hD : w.cell? ⟨D, 0, none⟩ = some (.int .i64 d)) (hE : w.cell? ⟨E, 0, none⟩ = some (.int .i64 er)) (hN : w.cell? ⟨N, 0, none⟩ = some (.string note)) (hA : w.cell? ⟨A, 0, none⟩ = some (.int .i64 at_)) :
    Calls Try.prog 13 #[.pointer (some ⟨L, 0, none⟩), .pointer (some ⟨D, 0, none⟩), .pointer (some ⟨E, 0, none⟩), .pointer (some ⟨N, 0, none⟩), .pointer (some ⟨A, 0, none⟩)] w fun e w' => e = .panicked (thr er note at_) ∧ Logged L B g (n + (d + 1)) (xs ++ down d) w w' := by
  have H := Lib.hid h
  clear h
  go_enter Try.func13, Try.ntmps13
  go_wp2_with fail
  refine (sink_any d L B g n cap xs er at_ note _ H.out hd hn).mono ?_
  rintro e w' ⟨rfl, hm⟩
  exact ⟨rfl, rfl, hm⟩
end Go.Proofs.Ytnbkgpkgfolakaa
