/-
  The law TrapNests, walked: of no checks, and of some.
-/
import Derived.Test.YtnbkgpkgfolakaaFirst
namespace Go.Proofs.Ytnbkgpkgfolakaa
open Go.RowKit

theorem info1 : (Try.prog.info? 1).map (fun i => (i.zero, i.size, i.bytes)) = some (some .nilFunc, 1, 8) := by kernel_rfl

/-- append's law, on a list of functions of the call's own. -/
theorem wpList_fns {ops : Array Oper} {rest : List Oper} {o : Oper} {a : Act} {Q : Exit → Act → World → Prop} (w : World) (hgd : o.guard = none) (s x : Operand)
    (ho : o.op = .call { callee := .builtin .append, args := #[s, x], argTypes := #[37, 37] })
    (B n : Nat) (u : Value) (xs : List Value) (hs : a.eval s = u) (hown : w.ownsRow B 1 1 u n xs) (hn : n ≤ 1000) (hB : B ≤ w.heap.size)
    (b : Nat) (fn : Value) (hx : a.eval x = .slice (some ⟨b, 0, none⟩) 1 1) (hb : w.heap[b]? = some (.cells #[fn] 1 (0, 0))) (h1 : fn.oneCell' = true)
    (H : Nat) (hH : w.heap.size = H)
    (h : ∀ g' cap' w', w'.ownsRow B 1 1 (.slice (some ⟨g', 0, none⟩) (n + 1) cap') (n + 1) (xs ++ [fn]) → w.grownBy w' u.ownBlock → (u.ownBlock = some g' ∨ g' = H) → g' < w'.heap.size → wpList Try.prog ops Q rest (a.put o.dst (.slice (some ⟨g', 0, none⟩) (n + 1) cap')) w') :
    wpList Try.prog ops Q (o :: rest) a w := by
  obtain ⟨i0, hi, hz0, hz1, hz2⟩ := info_parts info1
  exact wpList_append_lies w hgd s x 37 ho B 1 i0 .nilFunc 1 8 Try.underlying37 hi hz0 hz1 hz2 rfl (by omega) u n xs hs hown ⟨b, 0, none⟩ 1 1 [fn] hx rfl (World.news_of_block (cs := #[fn]) hb) (by simpa using h1) (by omega) (by unfold maxLen; omega) (by omega) hB H hH h

/-- a slice's length: for a loop's measure -/
def lenOf : Value → Nat | .slice _ n _ => n | _ => 0
theorem own_len {w : World} {B e s n : Nat} {u : Value} {xs : List Value} (h : w.ownsRow B e s u n xs) : lenOf u = n := by
  rcases h.2 with ⟨rfl, rfl⟩ | ⟨g, cap, cur, rfl, _⟩ <;> rfl

/-- the law's first loop: k functions are made -/
def Build (L T V J0 m p : Nat) (w0 : World) (s6 s7 s8 : Value) (wr : World) : Prop :=
  ∃ (k J : Nat) (Is : List Nat) (c : Int), k ≤ m ∧ Is.length = k ∧ s8 = .pointer (some ⟨J, 0, none⟩) ∧ s7 = .int .i64 c ∧ ((k ≤ p ∧ c = -1) ∨ (p < k ∧ c = p)) ∧
    wr.heap[J]? = some (.cells #[.int .i64 (k : Int)] 3 (0, 0)) ∧ J0 ≤ J ∧ wr.ownsRow J0 1 1 s6 k (Is.map (clo L T V)) ∧ s6.ownBlock ≠ some J ∧
    (∀ (j x : Nat), Is[j]? = some x → wr.heap[x]? = some (.cells #[.int .i64 (j : Int)] 3 (0, 0)) ∧ x ≠ J ∧ s6.ownBlock ≠ some x ∧ J0 ≤ x) ∧ Below J0 w0 wr

/-- what one round makes of it -/
theorem build_next {L T V J0 m p k J : Nat} {Is : List Nat} {w0 wr w1 : World} {s6 : Value} {g' cap' : Nat} {c' : Int} (hk : k < m) (hIs : Is.length = k)
    (hJ : wr.heap[J]? = some (.cells #[.int .i64 (k : Int)] 3 (0, 0))) (hJ0 : J0 ≤ J) (hown : wr.ownsRow J0 1 1 s6 k (Is.map (clo L T V))) (hsJ : s6.ownBlock ≠ some J)
    (hI : ∀ (j x : Nat), Is[j]? = some x → wr.heap[x]? = some (.cells #[.int .i64 (j : Int)] 3 (0, 0)) ∧ x ≠ J ∧ s6.ownBlock ≠ some x ∧ J0 ≤ x) (hB : Below J0 w0 wr)
    (hc : (k + 1 ≤ p ∧ c' = -1) ∨ (p < k + 1 ∧ c' = p))
    (o1 : w1.ownsRow J0 1 1 (.slice (some ⟨g', 0, none⟩) (k + 1) cap') (k + 1) (Is.map (clo L T V) ++ [clo L T V J]))
    (hg : (wr.alloc (.cells #[clo L T V J] 1)).grownBy w1 s6.ownBlock) (hat : s6.ownBlock = some g' ∨ g' = wr.heap.size + 1) :
    Build L T V J0 m p w0 (.slice (some ⟨g', 0, none⟩) (k + 1) cap') (.int .i64 c') (.pointer (some ⟨w1.heap.size, 0, none⟩)) (w1.alloc (.cells #[.int .i64 ((k : Int) + 1)] 3)) := by
  have hs1 := hg.size
  simp at hs1
  have hJl := blk_lt hJ
  have hgl := (o1.lt g' rfl).2
  have old : ∀ {i : Nat} {o : Obj}, wr.heap[i]? = some o → s6.ownBlock ≠ some i → w1.heap[i]? = some o := fun h hn => (hg.block _ (by have := blk_lt h; simp; omega) (Ne.symm hn)).trans (blk_alloc h _)
  have hge : ∀ i, i < wr.heap.size → s6.ownBlock ≠ some i → g' ≠ i := by
    intro i hi hn e
    subst e
    rcases hat with h | h
    · exact hn h
    · omega
  refine ⟨k + 1, w1.heap.size, Is ++ [J], c', by omega, by simp [hIs], rfl, rfl, hc, by simpa using blk_new w1 (.cells #[.int .i64 ((k : Int) + 1)] 3), by omega, ?_, by simp [Value.ownBlock]; omega, ?_, ?_⟩
  · have := o1.alloc (.cells #[.int .i64 ((k : Int) + 1)] 3)
    simpa using this
  · intro j x hx
    by_cases hj : j < k
    · rw [List.getElem?_append_left (by omega)] at hx
      obtain ⟨a1, a2, a3, a4⟩ := hI j x hx
      have hxl := blk_lt a1
      exact ⟨blk_alloc (old a1 a3) _, by omega, by simp [Value.ownBlock]; exact hge x hxl a3, a4⟩
    · have hjk : j = k := by
        have := (List.getElem?_eq_some_iff.1 hx).1
        simp [hIs] at this
        omega
      subst hjk
      rw [List.getElem?_append_right (by omega), hIs, Nat.sub_self] at hx
      obtain rfl : J = x := by simpa using hx
      exact ⟨blk_alloc (old hJ hsJ) _, by omega, by simp [Value.ownBlock]; exact hge J hJl hsJ, hJ0⟩
  · have hb1 : Below J0 wr w1 := ((Below.refl _ wr).alloc (by omega) _).grown hg (by simp; omega) (fun i e => (hown.lt i e).1)
    exact (hB.trans hb1).alloc (by omega) _

/-- the world ahead of the first loop -/
def start (ao : Option Addr) (len cap : Nat) (v : Int) (w : World) : World :=
  ((((w.alloc (.cells #[.slice ao len cap] 36)).alloc (.cells #[.int .i64 v] 3)).alloc (.cells #[] 3)).alloc (.cells #[.slice (some ⟨w.heap.size + 1 + 1, 0, none⟩) 0 0] 31)).alloc (.cells #[.int .i64 0] 3)

theorem asize (w : World) (o : Obj) : (w.alloc o).heap.size = w.heap.size + 1 := by simp

structure Begun (L T V J0 g0 : Nat) (ao : Option Addr) (len cap : Nat) (v : Int) (w w0 : World) : Prop where
  t : w0.heap[T]? = some (.cells #[.slice ao len cap] 36 (0, 0))
  v : w0.heap[V]? = some (.cells #[.int .i64 v] 3 (0, 0))
  l : LogAt L w.heap.size g0 0 0 [] w0
  j : w0.heap[J0]? = some (.cells #[.int .i64 0] 3 (0, 0))
  below : Below w.heap.size w w0
  size : w0.heap.size = J0 + 1
  ord : w.heap.size = T ∧ T < V ∧ V < g0 ∧ g0 < L ∧ L < J0

theorem begun (ao : Option Addr) (len cap : Nat) (v : Int) (w : World) :
    Begun (w.heap.size + 1 + 1 + 1) w.heap.size (w.heap.size + 1) (w.heap.size + 1 + 1 + 1 + 1) (w.heap.size + 1 + 1) ao len cap v w (start ao len cap v w) := by
  have a1 := blk_new w (.cells #[.slice ao len cap] 36)
  have a2 := blk_new (w.alloc (.cells #[.slice ao len cap] 36)) (.cells #[.int .i64 v] 3)
  have a3 := blk_new ((w.alloc (.cells #[.slice ao len cap] 36)).alloc (.cells #[.int .i64 v] 3)) (.cells #[] 3)
  have a4 := blk_new (((w.alloc (.cells #[.slice ao len cap] 36)).alloc (.cells #[.int .i64 v] 3)).alloc (.cells #[] 3)) (.cells #[.slice (some ⟨w.heap.size + 1 + 1, 0, none⟩) 0 0] 31)
  have a5 := blk_new ((((w.alloc (.cells #[.slice ao len cap] 36)).alloc (.cells #[.int .i64 v] 3)).alloc (.cells #[] 3)).alloc (.cells #[.slice (some ⟨w.heap.size + 1 + 1, 0, none⟩) 0 0] 31)) (.cells #[.int .i64 0] 3)
  simp only [asize] at a2 a3 a4 a5
  refine ⟨blk_alloc (blk_alloc (blk_alloc (blk_alloc a1 _) _) _) _, blk_alloc (blk_alloc (blk_alloc a2 _) _) _, ⟨blk_alloc a4 _, ⟨by simp, Or.inr ⟨w.heap.size + 1 + 1, 0, #[], rfl, by omega, blk_alloc (blk_alloc a3 _) _, by omega, by unfold maxLen; omega, by simp, by simp⟩⟩, by omega, by omega⟩, a5, ?_, by simp [start], by omega⟩
  exact (((((Below.refl _ w).alloc (Nat.le_refl _) _).alloc (by simp) _).alloc (by simp; omega) _).alloc (by simp; omega) _).alloc (by simp; omega) _

theorem Kp.from_below {B : Nat} {w w' : World} (h : Below B w w') : Kp (fun k => B ≤ k) w w' := ⟨h.os, h.tape, h.output, h.size, fun k _ hn => h.block k (by omega)⟩

/-- all is there for First -/
theorem fns_of {L T V J0 g0 m b off len cap q cf J : Nat} {v : Int} {f : Nat → Bool} {w w0 wr : World} {Is : List Nat} (BG : Begun L T V J0 g0 (some ⟨b, off, none⟩) len cap v w w0) (hB : Below J0 w0 wr)
    (hown : wr.ownsRow J0 1 1 (.slice (some ⟨q, 0, none⟩) m cf) m (Is.map (clo L T V)))
    (hI : ∀ (j x : Nat), Is[j]? = some x → wr.heap[x]? = some (.cells #[.int .i64 (j : Int)] 3 (0, 0)) ∧ x ≠ J ∧ (Value.slice (some ⟨q, 0, none⟩) m cf).ownBlock ≠ some x ∧ J0 ≤ x)
    (hbl : b < T) (hb : ∀ j, j < len → w0.cell? ⟨b, off + j, none⟩ = some (.bool (f j))) :
    LogAt L w.heap.size g0 0 0 [] wr ∧ Fns L T V q g0 Is b off len cap v f wr := by
  obtain ⟨o1, o2, o3, o4, o5⟩ := BG.ord
  have oS := BG.size
  have hs := hB.size
  obtain ⟨q1, q2⟩ := hown.lt q rfl
  refine ⟨BG.l.kp (Kp.from_below hB) (by omega) (by omega), fun j x hx => ?_, fun j x hx => ?_, (hB.block T (by omega)).trans BG.t, (hB.block V (by omega)).trans BG.v, fun j hj => (hB.cell (p := ⟨b, off + j, none⟩) (by show b < J0; omega)).trans (hb j hj), q2, by omega, by omega⟩
  · obtain ⟨a1, a2, a3, a4⟩ := hI j x hx
    exact ⟨a1, by omega, by omega⟩
  · have := hown.cells rfl j (clo L T V x) (by simp [hx])
    rwa [Addr.add_lit, Nat.zero_add] at this

/-- the law's second loop -/
def Seen (B Q last : Nat) (w5 : World) (s13 s14 : Value) (wr : World) : Prop :=
  ∃ q k c : Nat, k ≤ last ∧ s13 = .slice (some ⟨q, 0, none⟩) (2 * k) c ∧ s14 = .int .i64 (k : Int) ∧ wr.ownsRow B 3 1 (.slice (some ⟨q, 0, none⟩) (2 * k) c) (2 * k) (dbl k) ∧ (q = Q ∨ w5.heap.size ≤ q) ∧ Kp (fun x => x = Q) w5 wr

/-- what lies there ahead of the second loop -/
structure Tail (F G Q L B g n cap : Nat) (ys : List Value) (x y z : Value) (w w5 : World) : Prop where
  ff : w5.heap[F]? = some (.cells #[x, y, z] 24 (0, 0))
  gg : w5.heap[G]? = some (.cells #[x, y, z] 24 (0, 0))
  qq : w5.heap[Q]? = some (.cells #[] 3 (0, 0))
  log : LogAt L B g n cap ys w5
  below : Below w.heap.size w w5
  ord : w.heap.size ≤ F ∧ F < G ∧ G < Q ∧ w5.heap.size = Q + 1 ∧ L < F ∧ g < F

theorem tail_of {L B g n cap : Nat} {ys : List Value} {w w3 : World} (x y z : Value) (h : LogAt L B g n cap ys w3) (hb : Below w.heap.size w w3) :
    Tail w3.heap.size (w3.heap.size + 1) (w3.heap.size + 1 + 1) L B g n cap ys x y z w (((w3.alloc (.cells #[x, y, z] 24)).alloc (.cells #[x, y, z] 24)).alloc (.cells #[] 3)) := by
  have a1 := blk_new w3 (.cells #[x, y, z] 24)
  have a2 := blk_new (w3.alloc (.cells #[x, y, z] 24)) (.cells #[x, y, z] 24)
  have a3 := blk_new ((w3.alloc (.cells #[x, y, z] 24)).alloc (.cells #[x, y, z] 24)) (.cells #[] 3)
  simp only [asize] at a2 a3
  have hL := blk_lt h.var
  have hg := h.lt
  have hs := hb.size
  refine ⟨blk_alloc (blk_alloc a1 _) _, blk_alloc a2 _, a3, h.kp ((((Kp.refl (fun _ => False) w3).alloc _).alloc _).alloc _) (fun t => t) (fun t => t), ((hb.alloc hs _).alloc (by simp; omega) _).alloc (by simp; omega) _, hs, by omega, by omega, by simp, hL, hg⟩

theorem below_drewN {w w1 w2 : World} (h : Below w.heap.size w w1) (n : Nat) (k : Below (w1.drewN n).heap.size (w1.drewN n) w2) : Below w.heap.size w w2 :=
  (show Below w.heap.size w (w1.drewN n) from ⟨h.os, h.tape, h.output, h.size, h.block⟩).trans (k.mono h.size)

theorem ints_dbl (k : Nat) : Ints (dbl k) := by
  induction k with
  | zero => intro u hu; simp [dbl] at hu
  | succ k ih =>
    intro u hu
    simp only [dbl, List.mem_append, List.mem_cons, List.not_mem_nil, or_false] at hu
    rcases hu with hu | rfl | rfl
    · exact ih u hu
    · exact ⟨_, rfl⟩
    · exact ⟨_, rfl⟩

set_option maxHeartbeats 1000000 in
set_option maxRecDepth 100000 in
theorem nests_pos (b off len cap m p : Nat) (f : Nat → Bool) (v : Int) (w : World) (hb : ∀ j, j < len → w.cell? ⟨b, off + j, none⟩ = some (.bool (f j))) (hbl : b < w.heap.size) (hm : m = min len 12) (h0 : 0 < len)
    (hp : p ≤ m) (hno : ∀ j, j < p → f j = false) (hyes : p < m → f p = true) :
    Calls Try.prog 5 #[.slice (some ⟨b, off, none⟩) len cap, .int .i64 v] w fun e w' => e = .returned (.bool true) ∧ Below w.heap.size w w' := by
  have HB := Lib.hid hb
  have HM := Lib.hid hm
  have HN := Lib.hid hno
  have HY := Lib.hid hyes
  clear hb hm hno hyes
  go_enter Try.func5, Try.ntmps5
  go_wp2_with fail
  have BG := Lib.hid (begun (some ⟨b, off, none⟩) len cap v w)
  change Code.wp Try.prog _ _ _ (start (some ⟨b, off, none⟩) len cap v w)
  generalize start (some ⟨b, off, none⟩) len cap v w = w0 at *
  obtain ⟨o1, o2, o3, o4, o5⟩ := BG.out.ord
  have oS := BG.out.size
  have bB : Hid (∀ j, j < len → w0.cell? ⟨b, off + j, none⟩ = some (.bool (f j))) := fun j hj => (BG.out.below.cell (p := ⟨b, off + j, none⟩) hbl).trans (HB.out j hj)
  generalize hT : w.heap.size = T at *
  generalize hV : T + 1 = V at *
  generalize hg : V + 1 = g0 at *
  generalize hL : g0 + 1 = L at *
  generalize hJ : L + 1 = J0 at *
  have HW := Lib.hid (And.intro hT (And.intro hV (And.intro hg (And.intro hL hJ))))
  clear hT hV hg hL hJ HB
  go_loopw [6, 7, 8] (Build L T V J0 m p w0) (fun s6 _ _ _ => m - lenOf s6)
  case atStart => exact ⟨0, J0, [], -1, Nat.zero_le _, rfl, rfl, rfl, Or.inl ⟨Nat.zero_le _, rfl⟩, BG.out.j, Nat.le_refl _, World.ownsRow_nil _ _ _ _, by simp [Value.ownBlock], fun j x hx => by simp at hx, Below.refl _ _⟩
  case round =>
    obtain ⟨k, J, Is, c, hk, hIs, rfl, rfl, hc, hJ, hJ0, hown, hsJ, hI, hBw⟩ := hrel
    have hln := own_len hown
    have cT : wr.cell? ⟨T, 0, none⟩ = some (.slice (some ⟨b, off, none⟩) len cap) := (hBw.cell (p := ⟨T, 0, none⟩) (by show T < J0; omega)).trans (blk_cell BG.out.t 0)
    have cJ := blk_cell hJ 0
    have hbT : b < J0 := by omega
    have hJl := blk_lt hJ
    have hmm := HM.out
    by_cases hlt : k < m
    · have h1 : k < len := by omega
      have h2 : k < 12 := by omega
      have h1' : (k : Int) < (len : Int) := by omega
      have h0' : (0 : Int) ≤ (k : Int) := by omega
      have h2' : (k : Int) < 12 := by omega
      have hnext : Hid (∀ (w1 : World) (g' cap' : Nat) (c' : Int), ((k + 1 ≤ p ∧ c' = -1) ∨ (p < k + 1 ∧ c' = p)) → w1.ownsRow J0 1 1 (.slice (some ⟨g', 0, none⟩) (k + 1) cap') (k + 1) (Is.map (clo L T V) ++ [clo L T V J]) →
          (wr.alloc (.cells #[clo L T V J] 1)).grownBy w1 u6.ownBlock → (u6.ownBlock = some g' ∨ g' = wr.heap.size + 1) →
          Build L T V J0 m p w0 (.slice (some ⟨g', 0, none⟩) (k + 1) cap') (.int .i64 c') (.pointer (some ⟨w1.heap.size, 0, none⟩)) (w1.alloc (.cells #[.int .i64 ((k : Int) + 1)] 3))) :=
        fun w1 g' cap' c' hc' o1 hg hat => build_next hlt hIs hJ hJ0 hown hsJ hI hBw hc' o1 hg hat
      have HO := Lib.hid hown
      have HJ := Lib.hid hJ
      have HBW := Lib.hid hBw
      have HC := Lib.hid hc
      have HLN := Lib.hid hln
      have HSJ := Lib.hid hsJ
      clear hown hJ hBw hI hc hln hsJ hmm hIs
      go_wp2_with (at_builtin; refine wpList_fns _ rfl (.tmp 28) (.tmp 30) rfl J0 k u6 (Is.map (clo L T V)) (by rfl) (HO.out.alloc _) (by omega) (by simp; omega) wr.heap.size (clo L T V J) (by rfl) (blk_new _ _) rfl (wr.heap.size + 1) (by simp) ?_)
      intro g' cap' w1 o1 hgr hat hlt2
      have hb1 : Below J0 wr w1 := ((Below.refl _ wr).alloc (by omega) _).grown hgr (by simp; omega) (fun i e => (HO.out.lt i e).1)
      have dT : w1.cell? ⟨T, 0, none⟩ = some (.slice (some ⟨b, off, none⟩) len cap) := (hb1.cell (p := ⟨T, 0, none⟩) (by show T < J0; omega)).trans cT
      have dJ : w1.cell? ⟨J, 0, none⟩ = some (.int .i64 (k : Int)) := blk_cell ((hgr.block J (by simp; omega) (Ne.symm HSJ.out)).trans (blk_alloc HJ.out _)) 0
      have dB : w1.cell? ⟨b, off + k, none⟩ = some (.bool (f k)) := (hb1.cell (p := ⟨b, off + k, none⟩) hbT).trans ((HBW.out.cell (p := ⟨b, off + k, none⟩) hbT).trans (bB.out k h1))
      have hnx : Hid (∀ c' : Int, ((k + 1 ≤ p ∧ c' = -1) ∨ (p < k + 1 ∧ c' = p)) → Build L T V J0 m p w0 (.slice (some ⟨g', 0, none⟩) (k + 1) cap') (.int .i64 c') (.pointer (some ⟨w1.heap.size, 0, none⟩)) (w1.alloc (.cells #[.int .i64 ((k : Int) + 1)] 3))) := fun c' hc' => hnext.out w1 g' cap' c' hc' o1 hgr hat
      have hc := HC.out
      clear hnext o1 hgr hat hlt2 hb1 cT cJ
      by_cases hkp : k < p
      · obtain rfl : c = -1 := by omega
        rw [HN.out k hkp] at dB
        clear hc
        go_wp2_with fail
        go_roundw
        case rel => exact hnx.out (-1) (by omega)
        case measure => rw [HLN.out]; simp [lenOf]; omega
      · by_cases hke : k = p
        · obtain rfl : c = -1 := by omega
          rw [hke, HY.out (by omega)] at dB
          have hnx : Hid (Build L T V J0 m p w0 (.slice (some ⟨g', 0, none⟩) (k + 1) cap') (.int .i64 (k : Int)) (.pointer (some ⟨w1.heap.size, 0, none⟩)) (w1.alloc (.cells #[.int .i64 ((k : Int) + 1)] 3))) := hnx.out k (by omega)
          rw [← hke] at dB
          have HKE := Lib.hid hke
          clear hc hke
          go_wp2_with fail
          go_roundw
          case rel => exact hnx.out
          case measure => rw [HLN.out]; simp [lenOf]; omega
        · obtain rfl : c = p := by omega
          have hq : ¬ (p : Int) < 0 := by omega
          clear hc
          cases hfk : f k with
          | true =>
            rw [hfk] at dB
            clear hfk
            go_wp2_with fail
            go_roundw
            case rel => exact hnx.out p (by omega)
            case measure => rw [HLN.out]; simp [lenOf]; omega
          | false =>
            rw [hfk] at dB
            clear hfk
            go_wp2_with fail
            go_roundw
            case rel => exact hnx.out p (by omega)
            case measure => rw [HLN.out]; simp [lenOf]; omega
    · obtain rfl : k = m := by omega
      obtain ⟨q, cf, rfl, hq1, hq2⟩ := hown.form (by omega)
      obtain ⟨lw, fw⟩ := fns_of BG.out hBw hown hI (by omega) bB.out
      have hBW := Lib.hid (BG.out.below.trans (hBw.mono (by have := HW.out.1; omega)))
      have hnot : ¬ (k < len ∧ k < 12) := by omega
      have LW := Lib.hid lw
      have FW := Lib.hid fw
      have HIS := Lib.hid hIs
      clear hown hI hBw hJ hln lw fw hsJ hIs
      by_cases hpm : p = k
      · subst hpm
        obtain rfl : c = -1 := by omega
        have hfst := Lib.hid (first_none L T V q w.heap.size g0 0 p cf _ b off len cap v f wr LW.out FW.out HIS.out (by omega) HN.out)
        clear hc HY
        have hex : (((p : Int) < (len : Int)) ∧ ¬ (p : Int) < 12) ∨ ¬ (p : Int) < (len : Int) := by omega
        have hp12 : p ≤ 12 := by omega
        clear hnot hmm hp hlt hk
        rcases hex with ⟨h1', h2'⟩ | h1'
        all_goals
          go_wp2_with fail
          refine hfst.out.mono ?_
          clear hfst
          rintro e w3 ⟨rfl, g3, cap3, l3, k3, hg3⟩
          have V3 : w3.heap[V]? = some (.cells #[.int .i64 v] 3 (0, 0)) := (k3.block V (blk_lt FW.out.fv) (by have := FW.out.ne; omega)).trans FW.out.fv
          have B3 : Hid (Below w.heap.size w w3) := hBW.out.trans (k3.below hBW.out.size (fun k hk t => by have := HW.out.1; omega))
          have hs3 : T ≤ w3.heap.size := by have := B3.out.size; have := HW.out.1; omega
          have L3 := Lib.hid l3
          have hv3 := Lib.hid V3
          have hL3 := blk_lt l3.var
          have hg3l := l3.lt
          clear l3 V3 k3 hg3
          go_wp2_with fail
          have TL := Lib.hid (tail_of (.int .i64 0) (.string ⟨#[]⟩) (.int .i64 0) L3.out B3.out)
          generalize w3.heap.size = F at *
          generalize hG : F + 1 = G at *
          generalize hQ : G + 1 = Q at *
          generalize ((w3.alloc (.cells #[.int .i64 0, .string ⟨#[]⟩, .int .i64 0] 24)).alloc (.cells #[.int .i64 0, .string ⟨#[]⟩, .int .i64 0] 24)).alloc (.cells #[] 3) = w5 at *
          obtain ⟨t1, t2, t3, t4, t5, t6⟩ := TL.out.ord
          have t7 : Q < w5.heap.size := by omega
          have T4 := Lib.hid t4
          clear hG hQ t4
          go_loopw [13, 14] (Seen w.heap.size Q p w5) (fun _ i _ => p - (intOf i).toNat)
          case atStart => exact ⟨Q, 0, 0, Nat.zero_le _, rfl, rfl, ⟨by simp [dbl], Or.inr ⟨Q, 0, #[], rfl, by omega, TL.out.qq, by omega, by unfold maxLen; omega, by simp, by simp [dbl]⟩⟩, Or.inl rfl, Kp.refl _ _⟩
          case round =>
            obtain ⟨qs, j, cs, hj, rfl, rfl, hown, hqs, hks⟩ := hrel
            have hsz := hks.size
            have HO := Lib.hid hown
            have HK := Lib.hid hks
            have HQ := Lib.hid hqs
            clear hown hks hqs
            by_cases hlt : j < p
            · have q1 : (j : Int) < (p : Int) := by omega
              have q0 : (0 : Int) ≤ (j : Int) := by omega
              go_wp2_with (at_builtin; refine wpList_log _ rfl (.tmp 65) (.tmp 68) rfl w.heap.size qs (2 * j) cs _ (by rfl) (HO.out.alloc _) (by omega) (by simp; omega) wr.heap.size 2 2 #[.int .i64 (j : Int), .int .i64 (j : Int)] (by rfl) rfl (by omega) (by omega) (blk_new _ _) (by simp [Value.oneCell']) (wr.heap.size + 1) (by simp) ?_)
              intro g' cap' wn hown hgrow hat hlt2
              have hs : Hid (Seen w.heap.size Q p w5 (.slice (some ⟨g', 0, none⟩) (2 * j + 2) cap') (.int .i64 ((j : Int) + 1)) wn) := by
                have hq := HQ.out
                have t4 := T4.out
                refine ⟨g', j + 1, cap', by omega, by congr 1, rfl, ?_, by omega, (HK.out.alloc _).grown hgrow (fun k hk e => by simp at e; omega)⟩
                simpa [dbl, Nat.mul_add] using hown
              clear hown hgrow hat hlt2
              go_wp2_with fail
              go_roundw
              case rel => exact hs.out
              case measure => simp [intOf]; omega
            · obtain rfl : j = p := by omega
              have q1 : ¬ (j : Int) < (j : Int) := by omega
              obtain ⟨e1, e2, e3, e4⟩ : wr.heap[F]? = some (.cells #[.int .i64 0, .string ⟨#[]⟩, .int .i64 0] 24 (0, 0)) ∧ wr.heap[G]? = some (.cells #[.int .i64 0, .string ⟨#[]⟩, .int .i64 0] 24 (0, 0)) ∧ LogAt L w.heap.size g3 (2 * j) cap3 (dbl j) wr ∧ Below w.heap.size w wr := by
                have hk := HK.out
                exact ⟨(hk.block F (by omega) (by omega)).trans TL.out.ff, (hk.block G (by omega) (by omega)).trans TL.out.gg, TL.out.log.kp hk (by omega) (by omega), TL.out.below.trans (hk.below TL.out.below.size (fun k hk t => by omega))⟩
              have E1 := Lib.hid e1
              have E2 := Lib.hid e2
              have E3 := Lib.hid e3
              have E4 := Lib.hid e4
              clear e1 e2 e3 e4 HK HQ TL T4
              go_wp2_with fail
              refine (first_nil _).mono ?_
              rintro e w8 ⟨rfl, hb8⟩
              have kk : Kp (fun _ => False) wr (w8.alloc (.cells #[.int .i64 0, .string ⟨#[]⟩, .int .i64 0] 24)) := (Kp.of_below hb8 _).alloc _
              obtain ⟨x0, x1, x2⟩ := blk3 ((hb8.block F (blk_lt E1.out)).trans E1.out) (.cells #[.int .i64 0, .string ⟨#[]⟩, .int .i64 0] 24)
              obtain ⟨y0, y1, y2⟩ := blk3 ((hb8.block G (blk_lt E2.out)).trans E2.out) (.cells #[.int .i64 0, .string ⟨#[]⟩, .int .i64 0] 24)
              have z := blk_new w8 (.cells #[.int .i64 0, .string ⟨#[]⟩, .int .i64 0] 24)
              have z0 := blk_cell z 0
              have z1 := blk_cell z 1
              have z2 := blk_cell z 2
              have l9 := E3.out.kp kk (fun t => t) (fun t => t)
              have cL : (w8.alloc (.cells #[.int .i64 0, .string ⟨#[]⟩, .int .i64 0] 24)).cell? ⟨L, 0, none⟩ = some (.slice (some ⟨g3, 0, none⟩) (2 * j) cap3) := blk_cell l9.var 0
              have L9 := Lib.hid l9.own
              have S9 := Lib.hid (owns_block HO.out (kk.block qs (HO.out.lt qs rfl).2 (fun t => t)))
              have B9 := Lib.hid (E4.out.trans (kk.below E4.out.size (fun _ _ t => t)))
              have ZI := Lib.hid (ints_dbl j)
              clear z l9 kk hb8 E1 E2 E3 E4 HO
              go_wp2_with fail
              refine (same_own _ _ _ _ _ _ _ _ _ (by omega) ZI.out L9.out S9.out).mono ?_
              rintro e w' ⟨rfl, kk, rfl⟩
              go_wp2_with fail
              refine (trapRuns_any _).mono ?_
              rintro e w' ⟨rfl, hbt⟩
              have hfin := Lib.hid (below_drewN B9.out kk hbt)
              clear hbt
              go_wp2_with fail
              go_ret
              exact ⟨rfl, hfin.out⟩
      · obtain rfl : c = p := by omega
        have hfst := Lib.hid (first_some L T V q w.heap.size g0 0 k cf p _ b off len cap v f wr LW.out FW.out HIS.out (by omega) (by omega) HN.out (HY.out (by omega)))
        clear hc HY
        have hex : (((k : Int) < (len : Int)) ∧ ¬ (k : Int) < 12) ∨ ¬ (k : Int) < (len : Int) := by omega
        have hp12 : p ≤ 12 := by omega
        have hp0 : (0 : Int) ≤ (p : Int) := by omega
        have hp13 : (p : Int) ≤ 12 := by omega
        obtain ⟨j0, j1⟩ := wi_bd v 99 (by omega)
        clear hnot hmm hp hlt hk hpm
        rcases hex with ⟨h1', h2'⟩ | h1'
        all_goals
          go_wp2_with fail
          refine hfst.out.mono ?_
          clear hfst
          rintro e w3 ⟨rfl, g3, cap3, l3, k3, hg3⟩
          have V3 : w3.heap[V]? = some (.cells #[.int .i64 v] 3 (0, 0)) := (k3.block V (blk_lt FW.out.fv) (by have := FW.out.ne; omega)).trans FW.out.fv
          have B3 : Hid (Below w.heap.size w w3) := hBW.out.trans (k3.below hBW.out.size (fun k hk t => by have := HW.out.1; omega))
          have hs3 : T ≤ w3.heap.size := by have := B3.out.size; have := HW.out.1; omega
          have L3 := Lib.hid l3
          have cV : ((w3.alloc (.cells #[.int .i64 3, .string tOut, .int .i64 ((p : Int) + wi v 99)] 24)).alloc (.cells #[.int .i64 0, .string ⟨#[]⟩, .int .i64 0] 24)).cell? ⟨V, 0, none⟩ = some (.int .i64 v) := blk_cell (blk_alloc (blk_alloc V3 _) _) 0
          have hL3 := blk_lt l3.var
          have hg3l := l3.lt
          clear l3 V3 k3 hg3
          go_wp2_with (go_at_call 12; refine (within_any _ _ _ (by omega) (by omega)).mono ?_; rintro e w' ⟨rfl, rfl⟩)
          have TL := Lib.hid (tail_of (.int .i64 3) (.string tOut) (.int .i64 ((p : Int) + wi v 99)) L3.out B3.out)
          clear cV
          rw [show (Value.string ⟨#[111, 117, 116]⟩) = Value.string tOut from rfl]
          generalize w3.heap.size = F at *
          generalize hG : F + 1 = G at *
          generalize hQ : G + 1 = Q at *
          generalize ((w3.alloc (.cells #[.int .i64 3, .string tOut, .int .i64 ((p : Int) + wi v 99)] 24)).alloc (.cells #[.int .i64 3, .string tOut, .int .i64 ((p : Int) + wi v 99)] 24)).alloc (.cells #[] 3) = w5 at *
          obtain ⟨t1, t2, t3, t4, t5, t6⟩ := TL.out.ord
          have t7 : Q < w5.heap.size := by omega
          have T4 := Lib.hid t4
          clear hG hQ t4
          go_loopw [13, 14] (Seen w.heap.size Q (p + 1) w5) (fun _ i _ => (p + 1) - (intOf i).toNat)
          case atStart => exact ⟨Q, 0, 0, Nat.zero_le _, rfl, rfl, ⟨by simp [dbl], Or.inr ⟨Q, 0, #[], rfl, by omega, TL.out.qq, by omega, by unfold maxLen; omega, by simp, by simp [dbl]⟩⟩, Or.inl rfl, Kp.refl _ _⟩
          case round =>
            obtain ⟨qs, j, cs, hj, rfl, rfl, hown, hqs, hks⟩ := hrel
            have hsz := hks.size
            have HO := Lib.hid hown
            have HK := Lib.hid hks
            have HQ := Lib.hid hqs
            clear hown hks hqs
            by_cases hlt : j < (p + 1)
            · have q1 : (j : Int) < ((p : Int) + 1) := by omega
              have q0 : (0 : Int) ≤ (j : Int) := by omega
              go_wp2_with (at_builtin; refine wpList_log _ rfl (.tmp 65) (.tmp 68) rfl w.heap.size qs (2 * j) cs _ (by rfl) (HO.out.alloc _) (by omega) (by simp; omega) wr.heap.size 2 2 #[.int .i64 (j : Int), .int .i64 (j : Int)] (by rfl) rfl (by omega) (by omega) (blk_new _ _) (by simp [Value.oneCell']) (wr.heap.size + 1) (by simp) ?_)
              intro g' cap' wn hown hgrow hat hlt2
              have hs : Hid (Seen w.heap.size Q (p + 1) w5 (.slice (some ⟨g', 0, none⟩) (2 * j + 2) cap') (.int .i64 ((j : Int) + 1)) wn) := by
                have hq := HQ.out
                have t4 := T4.out
                refine ⟨g', j + 1, cap', by omega, by congr 1, rfl, ?_, by omega, (HK.out.alloc _).grown hgrow (fun k hk e => by simp at e; omega)⟩
                simpa [dbl, Nat.mul_add] using hown
              clear hown hgrow hat hlt2
              go_wp2_with fail
              go_roundw
              case rel => exact hs.out
              case measure => simp [intOf]; omega
            · obtain rfl : j = (p + 1) := by omega
              have q1 : ¬ ((p + 1 : Nat) : Int) < (p : Int) + 1 := by omega
              obtain ⟨e1, e2, e3, e4⟩ : wr.heap[F]? = some (.cells #[.int .i64 3, .string tOut, .int .i64 ((p : Int) + wi v 99)] 24 (0, 0)) ∧ wr.heap[G]? = some (.cells #[.int .i64 3, .string tOut, .int .i64 ((p : Int) + wi v 99)] 24 (0, 0)) ∧ LogAt L w.heap.size g3 (2 * (p + 1)) cap3 (dbl (p + 1)) wr ∧ Below w.heap.size w wr := by
                have hk := HK.out
                exact ⟨(hk.block F (by omega) (by omega)).trans TL.out.ff, (hk.block G (by omega) (by omega)).trans TL.out.gg, TL.out.log.kp hk (by omega) (by omega), TL.out.below.trans (hk.below TL.out.below.size (fun k hk t => by omega))⟩
              have E1 := Lib.hid e1
              have E2 := Lib.hid e2
              have E3 := Lib.hid e3
              have E4 := Lib.hid e4
              clear e1 e2 e3 e4 HK HQ TL T4
              go_wp2_with fail
              refine (first_nil _).mono ?_
              rintro e w8 ⟨rfl, hb8⟩
              have kk : Kp (fun _ => False) wr (w8.alloc (.cells #[.int .i64 0, .string ⟨#[]⟩, .int .i64 0] 24)) := (Kp.of_below hb8 _).alloc _
              obtain ⟨x0, x1, x2⟩ := blk3 ((hb8.block F (blk_lt E1.out)).trans E1.out) (.cells #[.int .i64 0, .string ⟨#[]⟩, .int .i64 0] 24)
              obtain ⟨y0, y1, y2⟩ := blk3 ((hb8.block G (blk_lt E2.out)).trans E2.out) (.cells #[.int .i64 0, .string ⟨#[]⟩, .int .i64 0] 24)
              have z := blk_new w8 (.cells #[.int .i64 0, .string ⟨#[]⟩, .int .i64 0] 24)
              have z0 := blk_cell z 0
              have z1 := blk_cell z 1
              have z2 := blk_cell z 2
              have l9 := E3.out.kp kk (fun t => t) (fun t => t)
              have cL : (w8.alloc (.cells #[.int .i64 0, .string ⟨#[]⟩, .int .i64 0] 24)).cell? ⟨L, 0, none⟩ = some (.slice (some ⟨g3, 0, none⟩) (2 * (p + 1)) cap3) := blk_cell l9.var 0
              have L9 := Lib.hid l9.own
              have S9 := Lib.hid (owns_block HO.out (kk.block qs (HO.out.lt qs rfl).2 (fun t => t)))
              have B9 := Lib.hid (E4.out.trans (kk.below E4.out.size (fun _ _ t => t)))
              have ZI := Lib.hid (ints_dbl (p + 1))
              clear z l9 kk hb8 E1 E2 E3 E4 HO
              go_wp2_with fail
              refine (same_own _ _ _ _ _ _ _ _ _ (by omega) ZI.out L9.out S9.out).mono ?_
              rintro e w' ⟨rfl, kk, rfl⟩
              go_wp2_with fail
              refine (trapRuns_any _).mono ?_
              rintro e w' ⟨rfl, hbt⟩
              have hfin := Lib.hid (below_drewN B9.out kk hbt)
              clear hbt
              go_wp2_with fail
              go_ret
              exact ⟨rfl, hfin.out⟩

set_option maxHeartbeats 1000000 in
set_option maxRecDepth 100000 in
theorem nests_zero (ao : Option Addr) (cap : Nat) (v : Int) (w : World) :
    Calls Try.prog 5 #[.slice ao 0 cap, .int .i64 v] w fun e w' => e = .returned (.bool true) ∧ Below w.heap.size w w' := by
  go_enter Try.func5, Try.ntmps5
  go_wp2_with fail
  have BG := Lib.hid (begun ao 0 cap v w)
  change Code.wp Try.prog _ _ _ (start ao 0 cap v w)
  generalize start ao 0 cap v w = w0 at *
  obtain ⟨o1, o2, o3, o4, o5⟩ := BG.out.ord
  have oS := BG.out.size
  generalize hT : w.heap.size = T at *
  generalize hV : T + 1 = V at *
  generalize hg : V + 1 = g0 at *
  generalize hL : g0 + 1 = L at *
  generalize hJ : L + 1 = J0 at *
  have HW := Lib.hid (And.intro hT (And.intro hV (And.intro hg (And.intro hL hJ))))
  clear hT hV hg hL hJ
  have cT : w0.cell? ⟨T, 0, none⟩ = some (.slice ao 0 cap) := blk_cell BG.out.t 0
  have cJ : w0.cell? ⟨J0, 0, none⟩ = some (.int .i64 0) := blk_cell BG.out.j 0
  go_loopw [6, 7, 8] (fun s6 s7 s8 wr => s6 = .slice none 0 0 ∧ s7 = .int .i64 (-1) ∧ s8 = .pointer (some ⟨J0, 0, none⟩) ∧ wr = w0) (fun _ _ _ _ => 0)
  case atStart => exact ⟨rfl, rfl, rfl, rfl⟩
  case round =>
    obtain ⟨rfl, rfl, rfl, rfl⟩ := hrel
    go_wp2_with fail
    refine (first_nil _).mono ?_
    rintro e w3 ⟨rfl, hb3⟩
    have L3 : Hid (LogAt L w.heap.size g0 0 0 [] w3) := BG.out.l.kp (Kp.of_below hb3 (fun _ => False)) (fun t => t) (fun t => t)
    have B3 : Hid (Below w.heap.size w w3) := BG.out.below.trans (hb3.mono BG.out.below.size)
    clear hb3 cT cJ
    go_wp2_with fail
    have TL := Lib.hid (tail_of (.int .i64 0) (.string ⟨#[]⟩) (.int .i64 0) L3.out B3.out)
    generalize w3.heap.size = F at *
    generalize hG : F + 1 = G at *
    generalize hQ : G + 1 = Q at *
    generalize ((w3.alloc (.cells #[.int .i64 0, .string ⟨#[]⟩, .int .i64 0] 24)).alloc (.cells #[.int .i64 0, .string ⟨#[]⟩, .int .i64 0] 24)).alloc (.cells #[] 3) = w5 at *
    obtain ⟨t1, t2, t3, t4, t5, t6⟩ := TL.out.ord
    clear hG hQ t4
    go_loopw [13, 14] (fun s13 s14 wr => s13 = .slice (some ⟨Q, 0, none⟩) 0 0 ∧ s14 = .int .i64 0 ∧ wr = w5) (fun _ _ _ => 0)
    case atStart => exact ⟨rfl, rfl, rfl⟩
    case round =>
      obtain ⟨rfl, rfl, rfl⟩ := hrel
      have HO : Hid (wr.ownsRow w.heap.size 3 1 (.slice (some ⟨Q, 0, none⟩) 0 0) 0 []) := ⟨by simp, Or.inr ⟨Q, 0, #[], rfl, by omega, TL.out.qq, by omega, by unfold maxLen; omega, by simp, by simp⟩⟩
      have E1 := Lib.hid TL.out.ff
      have E2 := Lib.hid TL.out.gg
      have E3 := Lib.hid TL.out.log
      have E4 := Lib.hid TL.out.below
      clear TL
      go_wp2_with fail
      refine (first_nil _).mono ?_
      rintro e w8 ⟨rfl, hb8⟩
      have kk : Kp (fun _ => False) wr (w8.alloc (.cells #[.int .i64 0, .string ⟨#[]⟩, .int .i64 0] 24)) := (Kp.of_below hb8 _).alloc _
      obtain ⟨x0, x1, x2⟩ := blk3 ((hb8.block F (blk_lt E1.out)).trans E1.out) (.cells #[.int .i64 0, .string ⟨#[]⟩, .int .i64 0] 24)
      obtain ⟨y0, y1, y2⟩ := blk3 ((hb8.block G (blk_lt E2.out)).trans E2.out) (.cells #[.int .i64 0, .string ⟨#[]⟩, .int .i64 0] 24)
      have z := blk_new w8 (.cells #[.int .i64 0, .string ⟨#[]⟩, .int .i64 0] 24)
      have z0 := blk_cell z 0
      have z1 := blk_cell z 1
      have z2 := blk_cell z 2
      have l9 := E3.out.kp kk (fun t => t) (fun t => t)
      have cL : (w8.alloc (.cells #[.int .i64 0, .string ⟨#[]⟩, .int .i64 0] 24)).cell? ⟨L, 0, none⟩ = some (.slice (some ⟨g0, 0, none⟩) 0 0) := blk_cell l9.var 0
      have L9 := Lib.hid l9.own
      have S9 := Lib.hid (owns_block HO.out (kk.block Q (HO.out.lt Q rfl).2 (fun t => t)))
      have B9 := Lib.hid (E4.out.trans (kk.below E4.out.size (fun _ _ t => t)))
      have ZI : Hid (Ints []) := ints_dbl 0
      clear z l9 kk hb8 E1 E2 E3 E4 HO
      go_wp2_with fail
      refine (same_own _ _ _ _ _ _ _ _ _ (by omega) ZI.out L9.out S9.out).mono ?_
      rintro e w' ⟨rfl, kk, rfl⟩
      go_wp2_with fail
      refine (trapRuns_any _).mono ?_
      rintro e w' ⟨rfl, hbt⟩
      have hfin := Lib.hid (below_drewN B9.out kk hbt)
      clear hbt
      go_wp2_with fail
      go_ret
      exact ⟨rfl, hfin.out⟩
end Go.Proofs.Ytnbkgpkgfolakaa
