/-
  Two doms in one world, the program's and the reference's: what the calls make of them. No walk.
-/
import Derived.Test.YtdbnhpghemlkbaaGsm
import Derived.Test.YtdbnhpghemlkbaaWrk
import Derived.Test.YtdbnhpghemlkbaaAlk
import Derived.Test.YtdbnhpghemlkbaaRin
import Derived.Test.YtdbnhpghemlkbaaRou
import Derived.Test.YtdbnhpghemlkbaaRfr
import Derived.Test.YtdbnhpghemlkbaaRmk
import Derived.Test.YtdbnhpghemlkbaaRsa
import Derived.Test.YtdbnhpghemlkbaaCpy
namespace Go.Proofs.Ytdbnhpghemlkbaa
open Go.RowKit Go.PlainAid Dm
set_option maxRecDepth 100000

/-- another dom's turn leaves this one, that the call made -/
theorem Mine.apart {M : Mo} {ro rr : Ros} {E B : Nat} {s : St} {w0 w w' : World} {S : Nat → Prop} (h : Mine M rr E s B w0 w) (hk : Kp (fun k => ro k ≠ 0 ∧ S (ro k)) w w') (ha : ∀ k, rr k ≠ 0 → ro k = 0) (hr : ∀ k, ro k ≠ 0 → B ≤ k) : Mine M rr E s B w0 w' := by
  obtain ⟨h1, h2, h3, h4⟩ := h
  exact ⟨h1.apart hk ha, h2, h3.trans (hk.below h4 (fun k hlt hs => by have := hr k hs.1; omega)), Nat.le_trans h4 hk.size⟩
/-- two doms that the call made, apart; blocks of its own beside them -/
def TwoM (M1 M2 : Mo) (w0 : World) (D E : Nat) (s1 s2 : St) (K : List (Nat × Obj)) (w : World) : Prop :=
  ∃ ro rr : Ros, Mine M1 ro D s1 w0.heap.size w0 w ∧ Mine M2 rr E s2 w0.heap.size w0 w ∧ (∀ k, ro k ≠ 0 → rr k = 0) ∧ ∀ x ∈ K, w.heap[x.1]? = some x.2 ∧ ro x.1 = 0 ∧ rr x.1 = 0
theorem heap_lt {w : World} {k : Nat} {o : Obj} (h : w.heap[k]? = some o) : k < w.heap.size := (Array.getElem?_eq_some_iff.1 h).1
section
variable {M1 M2 : Mo} {w0 w w' : World} {D E : Nat} {s1 s2 s' : St} {K K' : List (Nat × Obj)}
theorem TwoM.bw (h : TwoM M1 M2 w0 D E s1 s2 K w) : Below w0.heap.size w0 w := by
  obtain ⟨ro, rr, h1, _⟩ := h
  exact h1.2.2.1
theorem TwoM.swap (h : TwoM M1 M2 w0 D E s1 s2 K w) : TwoM M2 M1 w0 E D s2 s1 K w := by
  obtain ⟨ro, rr, h1, h2, h3, h4⟩ := h
  refine ⟨rr, ro, h2, h1, fun k hk => ?_, fun x hx => ⟨(h4 x hx).1, (h4 x hx).2.2, (h4 x hx).2.1⟩⟩
  by_cases e : ro k = 0
  · exact e
  · exact absurd (h3 k e) hk
theorem TwoM.call (h : TwoM M1 M2 w0 D E s1 s2 K w) (hb : Below w.heap.size w w') : TwoM M1 M2 w0 D E s1 s2 K w' := by
  obtain ⟨ro, rr, h1, h2, h3, h4⟩ := h
  exact ⟨ro, rr, h1.call hb, h2.call hb, h3, fun x hx => ⟨(hb.block x.1 (heap_lt (h4 x hx).1)).trans (h4 x hx).1, (h4 x hx).2⟩⟩
theorem TwoM.sub (h : TwoM M1 M2 w0 D E s1 s2 K w) (hs : ∀ x ∈ K', x ∈ K) : TwoM M1 M2 w0 D E s1 s2 K' w := by
  obtain ⟨ro, rr, h1, h2, h3, h4⟩ := h
  exact ⟨ro, rr, h1, h2, h3, fun x hx => h4 x (hs x hx)⟩
theorem TwoM.at (h : TwoM M1 M2 w0 D E s1 s2 K w) {b : Nat} {o : Obj} (hx : (b, o) ∈ K) : w.heap[b]? = some o := by
  obtain ⟨ro, rr, h1, h2, h3, h4⟩ := h
  exact (h4 _ hx).1
theorem Mine.fresh {M : Mo} {ro : Ros} {B : Nat} (h : Mine M ro D s1 B w0 w) : ∀ k, w.heap.size ≤ k → ro k = 0 := by
  intro k hk
  by_cases e : ro k = 0
  · exact e
  · have := h.1.lt _ e
    omega
theorem TwoM.alloc (h : TwoM M1 M2 w0 D E s1 s2 K w) (o : Obj) : TwoM M1 M2 w0 D E s1 s2 ((w.heap.size, o) :: K) (w.alloc o) := by
  have h' := h.call ((Below.refl _ w).alloc (Nat.le_refl _) o)
  obtain ⟨ro, rr, h1, h2, h3, h4⟩ := h
  have hb := (Below.refl _ w).alloc (Nat.le_refl _) o
  refine ⟨ro, rr, h1.call hb, h2.call hb, h3, fun x hx => ?_⟩
  rcases List.mem_cons.1 hx with rfl | hx
  · exact ⟨blk_new w o, h1.fresh _ (Nat.le_refl _), h2.fresh _ (Nat.le_refl _)⟩
  · exact ⟨(hb.block x.1 (heap_lt (h4 x hx).1)).trans (h4 x hx).1, (h4 x hx).2⟩
/-- the first one turns -/
theorem TwoM.turn (h : TwoM M1 M2 w0 D E s1 s2 K w) : ∃ ro, Dom M1 ro w D s1 ∧ ∀ s' S w', Turn M1 ro D s' S w w' → TwoM M1 M2 w0 D E s' s2 K w' := by
  obtain ⟨ro, rr, h1, h2, h3, h4⟩ := h
  refine ⟨ro, h1.1, fun s' S w' ht => ?_⟩
  obtain ⟨hd, hr, hb, hz⟩ := h1
  obtain ⟨ro', t1, t2, t3, t4⟩ := ht
  have ha : ∀ k, rr k ≠ 0 → ro k = 0 := fun k hk => by
    by_cases e : ro k = 0
    · exact e
    · exact absurd (h3 k e) hk
  have m2 := h2.apart t4 ha hr
  refine ⟨ro', rr, ⟨t1, fun k hk => (t3 k hk).elim (hr k) (fun e => Nat.le_trans hz e), m2.2.2⟩, m2, fun k hk => ?_, fun x hx => ?_⟩
  · rcases t3 k hk with e | e
    · exact h3 k e
    · exact h2.fresh k e
  · obtain ⟨x1, x2, x3⟩ := h4 x hx
    have hlt := heap_lt x1
    refine ⟨(t4.block x.1 hlt (fun e => e.1 x2)).trans x1, ?_, x3⟩
    by_cases e : ro' x.1 = 0
    · exact e
    · rcases t3 _ e with e2 | e2
      · exact absurd x2 e2
      · omega
end
abbrev Two := TwoM mP mR
section
variable {w0 w w' : World} {D E : Nat} {s1 s2 s' : St} {K K' : List (Nat × Obj)}
theorem two_new {D : Nat} {w1 w2 : World} {ro1 : Ros} (h1 : Mine mP ro1 D St.new w0.heap.size w0 w1) {e : Ending} (h2 : NewD mR St.new w1 e w2) : ∃ E, e = .returned (.pointer (some ⟨E, 0, none⟩)) ∧ Two w0 D E St.new St.new [] w2 := by
  obtain ⟨E, rr, he, hd, hr, hb⟩ := h2
  have hz := h1.2.2.2
  refine ⟨E, he, ro1, rr, h1.call hb, ⟨hd, fun k hk => Nat.le_trans hz (hr k hk), h1.2.2.1.trans (hb.mono hz), Nat.le_trans hz hb.size⟩, fun k hk => ?_, fun x hx => absurd hx (List.not_mem_nil)⟩
  by_cases e : rr k = 0
  · exact e
  · have := hr k e
    have := h1.1.lt k hk
    omega
/-- an operation's answer and what it makes of the first, of the second dom -/
def AnsP (w0 : World) (D E : Nat) (b : Value) (s' s2 : St) (K : List (Nat × Obj)) (e : Ending) (w' : World) : Prop := e = .returned b ∧ Two w0 D E s' s2 K w'
/-- the operation: f by the program, g by the reference -/
def OpQ (s : St) (f g : FuncId) (xs : List Value) (b : Value) (s' : St) : Prop :=
  Inv s' ∧ Fit s' ∧ (∀ w0 D E s2 K w, Two w0 D E s s2 K w → Calls Try.prog f (List.toArray (.pointer (some ⟨D, 0, none⟩) :: xs)) w (AnsP w0 D E b s' s2 K)) ∧ (∀ w0 D E s1 K w, Two w0 D E s1 s K w → Calls Try.prog g (List.toArray (.pointer (some ⟨E, 0, none⟩) :: xs)) w (AnsP w0 D E b s1 s' K))
theorem opYes {s' : St} {ro : Ros} {e : Ending} (h : ∀ s' S w', Turn mP ro D s' S w w' → Two w0 D E s' s2 K w') (hy : Yes mP ro D s' w e w') : AnsP w0 D E (.bool true) s' s2 K e w' := ⟨hy.1, h _ _ _ hy.2⟩
theorem opYesR {s' : St} {ro : Ros} {e : Ending} (h : ∀ s' S w', Turn mR ro E s' S w w' → TwoM mR mP w0 E D s' s1 K w') (hy : Yes mR ro E s' w e w') : AnsP w0 D E (.bool true) s1 s' K e w' := ⟨hy.1, (h _ _ _ hy.2).swap⟩
theorem opNo {e : Ending} (h : Two w0 D E s1 s2 K w) (hn : No w e w') : AnsP w0 D E (.bool false) s1 s2 K e w' := ⟨hn.1, h.call hn.2⟩
theorem opNoR {e : Ending} (h : Two w0 D E s1 s2 K w) (hn : NoR w e w') : AnsP w0 D E (.bool false) s1 s2 K e w' := ⟨hn.1, hn.2 ▸ h⟩
theorem op_ins {s : St} (hv : Inv s) (hf : Fit s) (ht : s.top ≤ 1000) (a b t : Int) : ∃ (r : Bool) (s' : St), s'.top = s.top ∧ OpQ s 10 23 [.int .i64 a, .int .i64 b, .int .i64 t] (.bool r) s' := by
  by_cases hm : s.mayInsert a b
  · obtain ⟨p, rfl, _, _, _⟩ := lives_nat hv hm.1
    obtain ⟨c, rfl, _, _, _⟩ := lives_nat hv hm.2.1
    have hi := inv_insert hv hm t
    rw [Int.toNat_natCast, Int.toNat_natCast] at hi
    refine ⟨true, s.insert p c t, ins_top s p c t, hi, fit_insert hf _ _ _, fun w0 D E s2 K w h => ?_, fun w0 D E s1 K w h => ?_⟩
    · obtain ⟨ro, hd, hq⟩ := h.turn
      exact (insert10_yes p c t w hd hv hm (by omega)).mono fun e w' hy => opYes hq hy
    · obtain ⟨ro, hd, hq⟩ := h.swap.turn
      exact (insert23_yes p c t w hd hv hm (by omega)).mono fun e w' hy => opYesR hq hy
  · refine ⟨false, s, rfl, hv, hf, fun w0 D E s2 K w h => ?_, fun w0 D E s1 K w h => ?_⟩
    · obtain ⟨ro, hd, hq⟩ := h.turn
      exact (insert10_no a b t w hd hv hm).mono fun e w' hy => opNo h hy
    · obtain ⟨ro, hd, hq⟩ := h.swap.turn
      exact (insert23_no a b t w hd hv hm).mono fun e w' hy => opNoR h hy
theorem op_det {s : St} (hv : Inv s) (hf : Fit s) (ht : s.top ≤ 1000) (a : Int) : ∃ (r : Bool) (s' : St), s'.top = s.top ∧ OpQ s 13 24 [.int .i64 a] (.bool r) s' := by
  by_cases hm : s.mayDetach a
  · obtain ⟨p, rfl, _, _, _⟩ := lives_nat hv hm.1
    have hi := inv_detach hv hm
    rw [Int.toNat_natCast] at hi
    refine ⟨true, s.out p, out_top s p, hi, fit_out hf _, fun w0 D E s2 K w h => ?_, fun w0 D E s1 K w h => ?_⟩
    · obtain ⟨ro, hd, hq⟩ := h.turn
      exact (detach13_yes p w hd hv hm (by omega)).mono fun e w' hy => opYes hq hy
    · obtain ⟨ro, hd, hq⟩ := h.swap.turn
      exact (detach24_yes p w hd hv hm (by omega)).mono fun e w' hy => opYesR hq hy
  · refine ⟨false, s, rfl, hv, hf, fun w0 D E s2 K w h => ?_, fun w0 D E s1 K w h => ?_⟩
    · obtain ⟨ro, hd, hq⟩ := h.turn
      exact (detach13_no a w hd hv hm).mono fun e w' hy => opNo h hy
    · obtain ⟨ro, hd, hq⟩ := h.swap.turn
      exact (detach24_no a w hd hv hm).mono fun e w' hy => opNoR h hy
theorem op_free {s : St} (hv : Inv s) (hf : Fit s) (ht : s.top ≤ 1000) (a : Int) : ∃ (r : Bool) (s' : St), s'.top = s.top ∧ OpQ s 14 25 [.int .i64 a] (.bool r) s' := by
  by_cases hm : s.mayFree a
  · obtain ⟨p, rfl, _, _, _⟩ := lives_nat hv hm.1
    obtain ⟨L, hL⟩ := pres_ex hv [p]
    have hi := inv_free hv hm (L := L) (by rw [Int.toNat_natCast]; exact hL)
    refine ⟨true, s.drop L, rfl, hi, fit_drop hf _, fun w0 D E s2 K w h => ?_, fun w0 D E s1 K w h => ?_⟩
    · obtain ⟨ro, hd, hq⟩ := h.turn
      exact (free14_yes p L w hd hv hm hL (by omega)).mono fun e w' hy => opYes hq hy
    · obtain ⟨ro, hd, hq⟩ := h.swap.turn
      exact (free25_yes p L w hd hv hm hL (by omega)).mono fun e w' hy => opYesR hq hy
  · refine ⟨false, s, rfl, hv, hf, fun w0 D E s2 K w h => ?_, fun w0 D E s1 K w h => ?_⟩
    · obtain ⟨ro, hd, hq⟩ := h.turn
      exact (free14_no a w hd hv hm).mono fun e w' hy => opNo h hy
    · obtain ⟨ro, hd, hq⟩ := h.swap.turn
      exact (free25_no a w hd hv hm).mono fun e w' hy => opNoR h hy
theorem op_say {s : St} (hv : Inv s) (hf : Fit s) (a : Int) (x : ByteArray) : ∃ (r : Bool) (s' : St), s'.top = s.top ∧ OpQ s 21 22 [.int .i64 a, .string x] (.bool r) s' := by
  by_cases hm : s.maySay a
  · obtain ⟨p, rfl, _, _, _⟩ := lives_nat hv hm.1
    have hl := (lives_spec hm.1).2.1
    rw [Int.toNat_natCast] at hl
    refine ⟨true, s.setText p x, rfl, inv_setText hv hl x, fit_text hf _ _, fun w0 D E s2 K w h => ?_, fun w0 D E s1 K w h => ?_⟩
    · obtain ⟨ro, hd, hq⟩ := h.turn
      exact (say21_yes p x w hd hv hm).mono fun e w' hy => opYes hq hy
    · obtain ⟨ro, hd, hq⟩ := h.swap.turn
      exact (say22_yes p x w hd hv hm).mono fun e w' hy => opYesR hq hy
  · refine ⟨false, s, rfl, hv, hf, fun w0 D E s2 K w h => ?_, fun w0 D E s1 K w h => ?_⟩
    · obtain ⟨ro, hd, hq⟩ := h.turn
      exact (say21_no a x w hd hv hm).mono fun e w' hy => opNo h hy
    · obtain ⟨ro, hd, hq⟩ := h.swap.turn
      exact (say22_no a x w hd hv hm).mono fun e w' hy => opNoR h hy
/-- one attribute in a block of its own -/
def atO (x y : ByteArray) : Obj := .cells #[.string x, .string y] 45 (0, 0)
theorem at_row {w : World} {b : Nat} {x y : ByteArray} (h : w.heap[b]? = some (atO x y)) : w.ownsRow 0 45 2 (.slice (some ⟨b, 0, none⟩) 1 1) [(x, y)].length ([(x, y)].flatMap atC) :=
  ⟨rfl, .inr ⟨b, 1, #[.string x, .string y], rfl, Nat.zero_le _, h, Nat.le_refl _, by decide, rfl, rfl⟩⟩
/-- the operation Attrs, by rows that lie in blocks of K -/
def OpA (s : St) (x y : ByteArray) (a : Int) (r : Bool) (s' : St) : Prop :=
  Inv s' ∧ Fit s' ∧ (∀ w0 D E s2 K w b, Two w0 D E s s2 K w → (b, atO x y) ∈ K → Calls Try.prog 19 #[.pointer (some ⟨D, 0, none⟩), .int .i64 a, .slice (some ⟨b, 0, none⟩) 1 1] w (AnsP w0 D E (.bool r) s' s2 K)) ∧ (∀ w0 D E s1 K w b, Two w0 D E s1 s K w → (b, atO x y) ∈ K → Calls Try.prog 20 #[.pointer (some ⟨E, 0, none⟩), .int .i64 a, .slice (some ⟨b, 0, none⟩) 1 1] w (AnsP w0 D E (.bool r) s1 s' K))
theorem op_attrs {s : St} (hv : Inv s) (hf : Fit s) (a : Int) (x y : ByteArray) : ∃ (r : Bool) (s' : St), s'.top = s.top ∧ OpA s x y a r s' := by
  by_cases hm : s.mayAttrs a
  · obtain ⟨p, rfl, _, _, _⟩ := lives_nat hv hm.1
    have hl := (lives_spec hm.1).2.1
    rw [Int.toNat_natCast] at hl
    refine ⟨true, s.setAttrs p [(x, y)], rfl, inv_setAttrs hv hl _, fit_attrs hf _ _ (by simp), fun w0 D E s2 K w b h hb => ?_, fun w0 D E s1 K w b h hb => ?_⟩
    · obtain ⟨ro, hd, hq⟩ := h.turn
      exact (attrs19_yes p _ [(x, y)] w hd hv hm (at_row (h.at hb)) (by simp)).mono fun e w' hy => opYes hq hy
    · obtain ⟨ro, hd, hq⟩ := h.swap.turn
      exact (attrs20_yes p _ [(x, y)] w hd hv hm (at_row (h.at hb)) (by simp) (by simp)).mono fun e w' hy => opYesR hq hy
  · refine ⟨false, s, rfl, hv, hf, fun w0 D E s2 K w b h _ => ?_, fun w0 D E s1 K w b h _ => ?_⟩
    · obtain ⟨ro, hd, hq⟩ := h.turn
      exact (attrs19_no a _ w hd hv hm).mono fun e w' hy => opNo h hy
    · obtain ⟨ro, hd, hq⟩ := h.swap.turn
      exact (attrs20_no a _ _ _ w hd hv hm).mono fun e w' hy => opNoR h hy
/-- a new node: the same number by both -/
theorem top_make {s : St} (hv : Inv s) (n : Nd) : s.fresh ≤ s.top + 1 ∧ (s.make n).top ≤ s.top + 1 := by
  unfold St.fresh St.make
  cases e : s.freed with
  | nil => exact ⟨Nat.le_refl _, Nat.le_refl _⟩
  | cons i l =>
    have := ((hv.free.2 i).1 (by rw [e]; simp)).2.1
    exact ⟨Nat.le_succ_of_le this, Nat.le_succ _⟩
theorem two_el {s : St} (h : Two w0 D E s s2 K w) (hv : Inv s) (ht : s.top ≤ 1000) (tag key : ByteArray) : Calls Try.prog 8 #[.pointer (some ⟨D, 0, none⟩), .string tag, .string key] w (AnsP w0 D E (.int .i64 (s.fresh : Nat)) (s.make (newNd tag key ⟨#[]⟩)) s2 K) := by
  obtain ⟨ro, hd, hq⟩ := h.turn
  exact (element8 tag key w hd hv (by omega)).mono fun e w' hy => ⟨hy.1, hq _ _ _ hy.2⟩
theorem two_text {s : St} (h : Two w0 D E s s2 K w) (hv : Inv s) (ht : s.top ≤ 1000) (x : ByteArray) : Calls Try.prog 9 #[.pointer (some ⟨D, 0, none⟩), .string x] w (AnsP w0 D E (.int .i64 (s.fresh : Nat)) (s.make (newNd ⟨#[]⟩ ⟨#[]⟩ x)) s2 K) := by
  obtain ⟨ro, hd, hq⟩ := h.turn
  exact (text9 x ⟨#[]⟩ w hd hv (by omega)).mono fun e w' hy => ⟨hy.1, hq _ _ _ hy.2⟩
theorem two_make {s : St} (h : Two w0 D E s1 s K w) (hv : Inv s) (ht : s.top ≤ 1000) (tag key x : ByteArray) : Calls Try.prog 18 #[.pointer (some ⟨E, 0, none⟩), .string tag, .string key, .string x] w (AnsP w0 D E (.int .i64 (s.fresh : Nat)) s1 (s.make (newNd tag key x)) K) := by
  obtain ⟨ro, hd, hq⟩ := h.swap.turn
  exact (make18 tag key x w hd hv (by omega)).mono fun e w' hy => ⟨hy.1, (hq _ _ _ hy.2).swap⟩
theorem two_alike {s : St} (h : Two w0 D E s s K w) (hv : Inv s) (hf : Fit s) (ht : s.top ≤ 1000) : Calls Try.prog 27 #[.pointer (some ⟨D, 0, none⟩), .pointer (some ⟨E, 0, none⟩)] w fun e w' => e = .returned (.bool true) ∧ Two w0 D E s s K w' := by
  obtain ⟨ro, rr, h1, h2, _⟩ := id h
  exact (alike27 w h1.1 h2.1 hv hf ht).mono fun e w' hy => ⟨hy.1, h.call hy.2⟩

/-! the copied dom's elder, that is turned once more and left -/
def Thr (w0 : World) (D Dn E n : Nat) (s : St) (K : List (Nat × Obj)) (w : World) : Prop :=
  ∃ so ro, Dom mP ro w D so ∧ Inv so ∧ Fit so ∧ so.top ≤ n ∧ ∃ rn rr, Mine mP rn Dn s w0.heap.size w0 w ∧ Mine mR rr E s w0.heap.size w0 w ∧ (∀ k, rn k ≠ 0 → rr k = 0) ∧ (∀ k, ro k ≠ 0 → rn k = 0 ∧ rr k = 0 ∧ w0.heap.size ≤ k) ∧ ∀ x ∈ K, w.heap[x.1]? = some x.2 ∧ ro x.1 = 0 ∧ rn x.1 = 0 ∧ rr x.1 = 0
theorem Thr.two {Dn n : Nat} {s : St} (h : Thr w0 D Dn E n s K w) : Two w0 Dn E s s K w := by
  obtain ⟨so, ro, h1, h2, h3, h4, rn, rr, h5, h6, h7, h8, h9⟩ := h
  exact ⟨rn, rr, h5, h6, h7, fun x hx => ⟨(h9 x hx).1, (h9 x hx).2.2⟩⟩
theorem Thr.at {Dn n : Nat} {s : St} (h : Thr w0 D Dn E n s K w) {b : Nat} {o : Obj} (hx : (b, o) ∈ K) : w.heap[b]? = some o := h.two.at hx
theorem Thr.start {n : Nat} {s : St} (h : Two w0 D E s s K w) (hv : Inv s) (hf : Fit s) (ht : s.top ≤ n) {e : Ending} (hn : NewD mP s w e w') : ∃ Dn, e = .returned (.pointer (some ⟨Dn, 0, none⟩)) ∧ Thr w0 D Dn E n s K w' := by
  obtain ⟨ro, rr, h1, h2, h3, h4⟩ := h
  obtain ⟨Dn, rn, he, hd, hr, hb⟩ := hn
  have hz := h1.2.2.2
  have old : ∀ k, k < w.heap.size → rn k = 0 := fun k hk => by
    by_cases e : rn k = 0
    · exact e
    · have := hr k e
      omega
  refine ⟨Dn, he, s, ro, h1.1.call hb, hv, hf, ht, rn, rr, ⟨hd, fun k hk => Nat.le_trans hz (hr k hk), h1.2.2.1.trans (hb.mono hz), Nat.le_trans hz hb.size⟩, h2.call hb, fun k hk => ?_, fun k hk => ⟨old k (h1.1.lt k hk), h3 k hk, h1.2.1 k hk⟩, fun x hx => ?_⟩
  · exact h2.fresh k (hr k hk)
  · obtain ⟨x1, x2, x3⟩ := h4 x hx
    exact ⟨(hb.block x.1 (heap_lt x1)).trans x1, x2, old _ (heap_lt x1), x3⟩
theorem Thr.call {Dn n m : Nat} {s : St} (h : Thr w0 D Dn E n s K w) (hb : Below w.heap.size w w') (hm : n ≤ m) : Thr w0 D Dn E m s K w' := by
  obtain ⟨so, ro, h1, h2, h3, h4, rn, rr, h5, h6, h7, h8, h9⟩ := h
  exact ⟨so, ro, h1.call hb, h2, h3, Nat.le_trans h4 hm, rn, rr, h5.call hb, h6.call hb, h7, h8, fun x hx => ⟨(hb.block x.1 (heap_lt (h9 x hx).1)).trans (h9 x hx).1, (h9 x hx).2⟩⟩
theorem Thr.turn {Dn n : Nat} {s : St} (h : Thr w0 D Dn E n s K w) : ∃ so ro, Dom mP ro w D so ∧ Inv so ∧ Fit so ∧ so.top ≤ n ∧ ∀ s' S w' m, Turn mP ro D s' S w w' → Inv s' → Fit s' → s'.top ≤ m → Thr w0 D Dn E m s K w' := by
  obtain ⟨so, ro, h1, h2, h3, h4, rn, rr, h5, h6, h7, h8, h9⟩ := h
  refine ⟨so, ro, h1, h2, h3, h4, fun s' S w' m ht hv hf hm => ?_⟩
  obtain ⟨ro', t1, t2, t3, t4⟩ := ht
  have hr : ∀ k, ro k ≠ 0 → w0.heap.size ≤ k := fun k hk => (h8 k hk).2.2
  have ha : ∀ k, rn k ≠ 0 → ro k = 0 := fun k hk => by
    by_cases e : ro k = 0
    · exact e
    · exact absurd (h8 k e).1 hk
  have hc : ∀ k, rr k ≠ 0 → ro k = 0 := fun k hk => by
    by_cases e : ro k = 0
    · exact e
    · exact absurd (h8 k e).2.1 hk
  refine ⟨s', ro', t1, hv, hf, hm, rn, rr, h5.apart t4 ha hr, h6.apart t4 hc hr, h7, fun k hk => ?_, fun x hx => ?_⟩
  · rcases t3 k hk with e | e
    · exact h8 k e
    · exact ⟨h5.fresh k e, h6.fresh k e, Nat.le_trans h5.2.2.2 e⟩
  · obtain ⟨x1, x2, x3⟩ := h9 x hx
    have hlt := heap_lt x1
    refine ⟨(t4.block x.1 hlt (fun e => e.1 x2)).trans x1, ?_, x3⟩
    by_cases e : ro' x.1 = 0
    · exact e
    · rcases t3 _ e with e2 | e2
      · exact absurd x2 e2
      · omega
theorem thr_ins {Dn n : Nat} {s : St} (h : Thr w0 D Dn E n s K w) (hn : n ≤ 1000) (a b t : Int) : Calls Try.prog 10 #[.pointer (some ⟨D, 0, none⟩), .int .i64 a, .int .i64 b, .int .i64 t] w fun e w' => ∃ r : Bool, e = .returned (.bool r) ∧ Thr w0 D Dn E n s K w' := by
  obtain ⟨so, ro, hd, hv, hf, ht, hq⟩ := h.turn
  by_cases hm : so.mayInsert a b
  · obtain ⟨p, rfl, _, _, _⟩ := lives_nat hv hm.1
    obtain ⟨c, rfl, _, _, _⟩ := lives_nat hv hm.2.1
    have hi := inv_insert hv hm t
    rw [Int.toNat_natCast, Int.toNat_natCast] at hi
    exact (insert10_yes p c t w hd hv hm (by omega)).mono fun e w' hy => ⟨true, hy.1, hq _ _ _ _ hy.2 hi (fit_insert hf _ _ _) (by rw [ins_top]; exact ht)⟩
  · exact (insert10_no a b t w hd hv hm).mono fun e w' hy => ⟨false, hy.1, h.call hy.2 (Nat.le_refl _)⟩
theorem thr_free {Dn n : Nat} {s : St} (h : Thr w0 D Dn E n s K w) (hn : n ≤ 1000) (a : Int) : Calls Try.prog 14 #[.pointer (some ⟨D, 0, none⟩), .int .i64 a] w fun e w' => ∃ r : Bool, e = .returned (.bool r) ∧ Thr w0 D Dn E n s K w' := by
  obtain ⟨so, ro, hd, hv, hf, ht, hq⟩ := h.turn
  by_cases hm : so.mayFree a
  · obtain ⟨p, rfl, _, _, _⟩ := lives_nat hv hm.1
    obtain ⟨L, hL⟩ := pres_ex hv [p]
    have hi := inv_free hv hm (L := L) (by rw [Int.toNat_natCast]; exact hL)
    exact (free14_yes p L w hd hv hm hL (by omega)).mono fun e w' hy => ⟨true, hy.1, hq _ _ _ _ hy.2 hi (fit_drop hf _) ht⟩
  · exact (free14_no a w hd hv hm).mono fun e w' hy => ⟨false, hy.1, h.call hy.2 (Nat.le_refl _)⟩
theorem thr_text {Dn n : Nat} {s : St} (h : Thr w0 D Dn E n s K w) (hn : n ≤ 1000) (x : ByteArray) : Calls Try.prog 9 #[.pointer (some ⟨D, 0, none⟩), .string x] w fun e w' => ∃ k : Nat, k ≤ n + 1 ∧ e = .returned (.int .i64 (k : Nat)) ∧ Thr w0 D Dn E (n + 1) s K w' := by
  obtain ⟨so, ro, hd, hv, hf, ht, hq⟩ := h.turn
  have hk := top_make hv (newNd ⟨#[]⟩ ⟨#[]⟩ x)
  exact (text9 x ⟨#[]⟩ w hd hv (by omega)).mono fun e w' hy => ⟨_, by omega, hy.1, hq _ _ _ _ hy.2 (inv_new_node hv _ _ _) (fit_newNd hf _ _ _) (by omega)⟩
end
end Go.Proofs.Ytdbnhpghemlkbaa
