/-
  porticolaw4.few.
-/
import Derived.Test.YtcppccpglcolnaaParse
import Derived.Laws.AppendOwnNone
import Derived.Deep.RegionHeld3
namespace Go.Proofs.Ytcppccpglcolnaa
open Go.RowKit Go.PlainAid

/-- a slice that came in: texts, pairs -/
def Sa (w : World) (A : Option Addr) (n c : Nat) (p : List ByteArray) : Prop :=
  p.length = n ∧ n ≤ c ∧ (A = none → c = 0) ∧ ∀ a, A = some a → ∀ j u, (p.flatMap stC)[j]? = some u → w.cell? (a.add j) = some u
def Pa (w : World) (A : Option Addr) (n c : Nat) (p : List Pr) : Prop :=
  p.length = n ∧ n ≤ c ∧ (A = none → c = 0) ∧ ∀ a, A = some a → ∀ j u, (p.flatMap prC)[j]? = some u → w.cell? (a.add j) = some u

theorem step_fewS {ops : Array Oper} {o : Oper} {a : Act} {K : Act → World → Prop} {Q : Exit → Act → World → Prop} {F : Prop} (w : World) (hw : Region.wanted o (yielded ops a.tmps) = true) (s x : Operand)
    (ho : o.op = .call { callee := .builtin .append, args := #[s, x], argTypes := #[22, 22] })
    (B : Nat) (w0 : World) (v : Value) (hs : a.eval s = v) (hown : OwnS B w0 v [] w)
    (A : Option Addr) (m c : Nat) (ys : List ByteArray) (hx : a.eval x = .slice A m c) (hm : ys.length = m) (hm1 : m ≤ 10) (hc : m ≤ c) (hn : A = none → c = 0) (hb : ∀ ad, A = some ad → ∀ j u, (ys.flatMap stC)[j]? = some u → w.cell? (ad.add j) = some u)
    (h : ∀ v' w', OwnS B w0 v' ys w' → w.grownBy w' v.ownBlock → K (a.put o.dst v') w') :
    if Region.wanted o (yielded ops a.tmps) = true then Oper.wp Try.prog o a w K Q else F := by
  rw [if_pos hw]
  cases A with
  | none =>
    have hc0 := hn rfl
    subst hc0
    obtain rfl : m = 0 := by omega
    obtain rfl : ys = [] := List.eq_nil_of_length_eq_zero hm
    obtain ⟨i0, hi, hz0, hz1, hz2⟩ := info_parts info9
    have hr := run_append_owned_none (P := Try.prog) (w := w) B 22 o.type 9 i0 1 Try.underlying22 hi v _ _ hown.1
    unfold Oper.wp execOp
    simp only [ho, resolve, invoke, builtin, Sem.run_bind, Sem.run_pure, Result.andThen_ok, List.map_toArray, List.map_cons, List.map_nil, hs, hx, hr]
    exact h v w hown (World.grownBy.refl _ _)
  | some ad => exact wp_appS w s x ho B w0 v [] hs hown (by simp) ad m c ys hx hm hm1 (hb ad rfl) fun v' w' h2 h3 _ => h v' w' h2 h3
theorem step_fewP {ops : Array Oper} {o : Oper} {a : Act} {K : Act → World → Prop} {Q : Exit → Act → World → Prop} {F : Prop} (w : World) (hw : Region.wanted o (yielded ops a.tmps) = true) (s x : Operand)
    (ho : o.op = .call { callee := .builtin .append, args := #[s, x], argTypes := #[23, 23] })
    (B : Nat) (w0 : World) (v : Value) (hs : a.eval s = v) (hown : OwnP B w0 v [] w)
    (A : Option Addr) (m c : Nat) (ys : List Pr) (hx : a.eval x = .slice A m c) (hm : ys.length = m) (hm1 : m ≤ 10) (hc : m ≤ c) (hn : A = none → c = 0) (hb : ∀ ad, A = some ad → ∀ j u, (ys.flatMap prC)[j]? = some u → w.cell? (ad.add j) = some u)
    (h : ∀ v' w', OwnP B w0 v' ys w' → w.grownBy w' v.ownBlock → K (a.put o.dst v') w') :
    if Region.wanted o (yielded ops a.tmps) = true then Oper.wp Try.prog o a w K Q else F := by
  rw [if_pos hw]
  cases A with
  | none =>
    have hc0 := hn rfl
    subst hc0
    obtain rfl : m = 0 := by omega
    obtain rfl : ys = [] := List.eq_nil_of_length_eq_zero hm
    obtain ⟨i0, hi, hz0, hz1, hz2⟩ := info_parts info32
    have hr := run_append_owned_none (P := Try.prog) (w := w) B 23 o.type 32 i0 2 Try.underlying23 hi v _ _ hown.1
    unfold Oper.wp execOp
    simp only [ho, resolve, invoke, builtin, Sem.run_bind, Sem.run_pure, Result.andThen_ok, List.map_toArray, List.map_cons, List.map_nil, hs, hx, hr]
    exact h v w hown (World.grownBy.refl _ _)
  | some ad => exact wp_appP w s x ho B w0 v [] hs hown (by simp) ad m c ys hx hm hm1 (hb ad rfl) fun v' w' h2 h3 _ => h v' w' h2 h3

theorem OwnS.apart {B B' : Nat} {w0 w0' : World} {v v2 : Value} {xs : List ByteArray} {ys : List Pr} {w : World} (h : OwnS B w0 v xs w) (k : OwnP B' w0' v2 ys w) : v.ownBlock = none ∨ v.ownBlock ≠ v2.ownBlock := by
  obtain ⟨_, ⟨rfl, _⟩ | ⟨g, cap, cur, rfl, _, hg, _⟩⟩ := h.1
  · exact Or.inl rfl
  · right
    obtain ⟨_, ⟨rfl, _⟩ | ⟨g', cap', cur', rfl, _, hg', _⟩⟩ := k.1
    · simp [Value.ownBlock]
    · intro e
      simp only [Value.ownBlock, Option.some.injEq] at e
      subst e
      rw [hg] at hg'
      simp at hg'
theorem OwnP.apart {B B' : Nat} {w0 w0' : World} {v v2 : Value} {xs : List ByteArray} {ys : List Pr} {w : World} (h : OwnS B w0 v xs w) (k : OwnP B' w0' v2 ys w) : v2.ownBlock = none ∨ v2.ownBlock ≠ v.ownBlock := by
  obtain ⟨_, ⟨rfl, _⟩ | ⟨g, cap, cur, rfl, _, hg, _⟩⟩ := k.1
  · exact Or.inl rfl
  · right
    obtain ⟨_, ⟨rfl, _⟩ | ⟨g', cap', cur', rfl, _, hg', _⟩⟩ := h.1
    · simp [Value.ownBlock]
    · intro e
      simp only [Value.ownBlock, Option.some.injEq] at e
      subst e
      rw [hg] at hg'
      simp at hg'
/-- the other slice grows -/
theorem OwnS.growP {B : Nat} {w0 : World} {v v2 : Value} {xs : List ByteArray} {ys : List Pr} {w w' : World} (h : OwnS B w0 v xs w) (k : OwnP B w0 v2 ys w) (hg : w.grownBy w' v2.ownBlock) : OwnS B w0 v xs w' :=
  ⟨h.1.kept hg (h.apart k), h.2.1.grown hg h.2.2 (fun j hj => (k.1.lt j hj).1), by have := hg.size; have := h.2.2; omega⟩
theorem OwnP.growS {B : Nat} {w0 : World} {v v2 : Value} {xs : List ByteArray} {ys : List Pr} {w w' : World} (h : OwnS B w0 v xs w) (k : OwnP B w0 v2 ys w) (hg : w.grownBy w' v.ownBlock) : OwnP B w0 v2 ys w' :=
  ⟨k.1.kept hg (OwnP.apart h k), k.2.1.grown hg k.2.2 (fun j hj => (h.1.lt j hj).1), by have := hg.size; have := k.2.2; omega⟩

theorem kp_set2 {R : Nat} {w w' : World} (h : Kp (fun k => k = R) w w') (x y : Value) : Kp (fun k => k = R) w ((w'.setCell ⟨R, 0, none⟩ x).setCell ⟨R, 1, none⟩ y) :=
  (h.setCell (p := ⟨R, 0, none⟩) (fun _ => rfl) x).setCell (p := ⟨R, 1, none⟩) (fun _ => rfl) y
theorem empS1 (B : Nat) (w : World) (o : Obj) (hB : B ≤ w.heap.size) : OwnS B w (.slice (some ⟨w.heap.size + 1, 0, none⟩) 0 0) [] ((w.alloc o).alloc (.cells #[] 9 (0, 0))) := by
  have := empS B w (w.alloc o) ((Below.refl _ _).alloc hB o) (by simp; omega)
  simpa using this
theorem empP1 (B : Nat) (w : World) (o : Obj) (hB : B ≤ w.heap.size) : OwnP B w (.slice (some ⟨w.heap.size + 1, 0, none⟩) 0 0) [] ((w.alloc o).alloc (.cells #[] 32 (0, 0))) := by
  have := empP B w (w.alloc o) ((Below.refl _ _).alloc hB o) (by simp; omega)
  simpa using this
theorem stC_take (l : List ByteArray) (k : Nat) : (l.take k).flatMap stC = (l.flatMap stC).take k := by rw [stC_map, stC_map, List.map_take]
theorem prC_take (l : List Pr) (k : Nat) : (l.take k).flatMap prC = (l.flatMap prC).take (k * 2) := by
  induction l generalizing k with
  | nil => simp
  | cons x l ih =>
    cases k with
    | zero => simp
    | succ k =>
      have e : (k + 1) * 2 = k * 2 + 1 + 1 := by omega
      rw [List.take_succ_cons, List.flatMap_cons, List.flatMap_cons, ih, e]
      simp [prC]
/-- what came in, read later, cut off -/
theorem Sa.src {w w' : World} {A : Option Addr} {n c : Nat} {p : List ByteArray} (h : Sa w A n c p) (hb : Below w.heap.size w w') (k : Nat) : ∀ ad, A = some ad → ∀ j u, ((p.take k).flatMap stC)[j]? = some u → w'.cell? (ad.add j) = some u := by
  intro ad ha j u hu
  rw [stC_take, List.getElem?_take] at hu
  split at hu
  · have hc := h.2.2.2 ad ha j u hu
    rw [hb.cell (World.block_lt_of_cell? _ _ hc)]
    exact hc
  · cases hu
theorem Pa.src {w w' : World} {A : Option Addr} {n c : Nat} {p : List Pr} (h : Pa w A n c p) (hb : Below w.heap.size w w') (k : Nat) : ∀ ad, A = some ad → ∀ j u, ((p.take k).flatMap prC)[j]? = some u → w'.cell? (ad.add j) = some u := by
  intro ad ha j u hu
  rw [prC_take, List.getElem?_take] at hu
  split at hu
  · have hc := h.2.2.2 ad ha j u hu
    rw [hb.cell (World.block_lt_of_cell? _ _ hc)]
    exact hc
  · cases hu

theorem size25 : (Try.prog.info? 25).map (·.size) = some 2 := by kernel_rfl
theorem blk_set2 {w : World} {b : Nat} {x0 y0 : Value} {t : TypeId} (h : w.heap[b]? = some (.cells #[x0, y0] t (0, 0))) (x y : Value) : ((w.setCell ⟨b, 0, none⟩ x).setCell ⟨b, 1, none⟩ y).heap[b]? = some (.cells #[x, y] t (0, 0)) :=
  blk_setCell (blk_setCell h 0 x) 1 y
theorem few_end {tmps : Array Value} {w w5 w7 : World} {R : Nat} {A3 A4 : Option Addr} {n3 p3 n4 p4 : Nat} {p : List ByteArray} {q : List Pr} (ht : tmps.getD 2 undef = .pointer (some ⟨R, 0, none⟩))
    (hR : w7.heap[R]? = some (.cells #[.slice none 0 0, .slice none 0 0] 25 (0, 0))) (h5 : OwnS w5.heap.size w5 (.slice A3 n3 p3) p w7) (h4 : OwnP w5.heap.size w5 (.slice A4 n4 p4) q w7) (hb : Below w.heap.size w w5) (hl : w.heap.size ≤ R) :
    bodyPost Try.prog Try.f13 (fun e w' => ∃ v1 v2, e = .returned (.agg #[v1, v2]) ∧ Ss w' v1 p ∧ Ps w' v2 q ∧ Below w.heap.size w w') .ret ⟨tmps, []⟩ ((w7.setCell ⟨R, 0, none⟩ (.slice A3 n3 p3)).setCell ⟨R, 1, none⟩ (.slice A4 n4 p4)) := by
  refine bodyPost_ret (v := .agg #[.slice A3 n3 p3, .slice A4 n4 p4]) (results_cell_row (P := Try.prog) rfl _ _ R 25 #[.slice A3 n3 p3, .slice A4 n4 p4] (0, 0) _ ht (blk_set2 hR _ _) Try.underlying25 rfl size25) rfl ⟨_, _, rfl, h5.ss.set2 hR _ _, h4.ps.set2 hR _ _, ?_⟩
  exact ((hb.trans (h5.2.1.mono hb.size)).setCell hl _).setCell hl _

set_option maxHeartbeats 3200000 in
theorem few13 (A1 A2 : Option Addr) (n1 c1 n2 c2 : Nat) (p : List ByteArray) (q : List Pr) (w : World) (h1 : Sa w A1 n1 c1 p) (h2 : Pa w A2 n2 c2 q) :
    Calls Try.prog 13 #[.agg #[.slice A1 n1 c1, .slice A2 n2 c2]] w fun e w' => ∃ v1 v2, e = .returned (.agg #[v1, v2]) ∧ Ss w' v1 (p.take 9) ∧ Ps w' v2 (q.take 9) ∧ Below w.heap.size w w' := by
  obtain ⟨m1, hm1⟩ : ∃ m, min n1 9 = m := ⟨_, rfl⟩
  obtain ⟨m2, hm2⟩ : ∃ m, min n2 9 = m := ⟨_, rfl⟩
  have d1 : m1 ≤ c1 := by have := h1.2.1; omega
  have d2 : m2 ≤ c2 := by have := h2.2.1; omega
  have e1 : (if (9 : Int) < (n1 : Int) then (9 : Int) else (n1 : Int)) = (m1 : Int) := by split <;> omega
  have e2 : (if (9 : Int) < (n2 : Int) then (9 : Int) else (n2 : Int)) = (m2 : Int) := by split <;> omega
  have f1 : (0 : Int) ≤ (m1 : Int) := by omega
  have f2 : (0 : Int) ≤ (m2 : Int) := by omega
  have f3 : (m1 : Int) ≤ (c1 : Int) := by omega
  have f4 : (m2 : Int) ≤ (c2 : Int) := by omega
  have H1 := Lib.hid h1
  have H2 := Lib.hid h2
  clear h1 h2
  go_enter Try.func13, Try.ntmps13
  go_wp2_with fail
  have HKb := Lib.hid (blk_alloc (blk_new w (.cells #[.slice A1 n1 c1, .slice A2 n2 c2] 25 (0, 0))) (.cells #[.slice none 0 0, .slice none 0 0] 25 (0, 0)))
  have HKr := Lib.hid (blk_new1 w (.cells #[.slice A1 n1 c1, .slice A2 n2 c2] 25 (0, 0)) (.cells #[.slice none 0 0, .slice none 0 0] 25 (0, 0)))
  have HB := Lib.hid (((Below.refl w.heap.size w).alloc (Nat.le_refl _) (.cells #[.slice A1 n1 c1, .slice A2 n2 c2] 25 (0, 0))).alloc (by simp) (.cells #[.slice none 0 0, .slice none 0 0] 25 (0, 0)))
  generalize (w.alloc (.cells #[.slice A1 n1 c1, .slice A2 n2 c2] 25)).alloc (.cells #[.slice none 0 0, .slice none 0 0] 25) = w5 at *
  have hlt5 : w.heap.size + 1 < w5.heap.size := blk_lt HKr.out
  have HS : Hid (∀ w' : World, Kp (fun k => k = w.heap.size + 1) w5 w' → w'.cell? ⟨w.heap.size, 0, none⟩ = some (.slice A1 n1 c1) ∧ w'.cell? ⟨w.heap.size, 1, none⟩ = some (.slice A2 n2 c2) ∧ Kp (fun k => k = w.heap.size + 1) w5 w') := by
    intro w' hk
    obtain ⟨a, b, _, _⟩ := blk2 ((hk.block _ (blk_lt HKb.out) (by omega)).trans HKb.out)
    exact ⟨a, b, hk⟩
  have HQ1 : Hid (∀ w', Below w5.heap.size w5 w' → ∀ ad, A1 = some ad → ∀ j u, ((p.take 9).flatMap stC)[j]? = some u → w'.cell? (ad.add j) = some u) := fun w' hb => H1.out.src (HB.out.trans (hb.mono HB.out.size)) 9
  have HQ2 : Hid (∀ w', Below w5.heap.size w5 w' → ∀ ad, A2 = some ad → ∀ j u, ((q.take 9).flatMap prC)[j]? = some u → w'.cell? (ad.add j) = some u) := fun w' hb => H2.out.src (HB.out.trans (hb.mono HB.out.size)) 9
  have hl1 : (p.take 9).length = m1 := by rw [List.length_take, H1.out.1]; omega
  have hl2 : (q.take 9).length = m2 := by rw [List.length_take, H2.out.1]; omega
  have L1 := Lib.hid hl1
  have L2 := Lib.hid hl2
  have N1 := Lib.hid H1.out.2.2.1
  have N2 := Lib.hid H2.out.2.2.1
  have D1 := Lib.hid (show m1 ≤ 10 ∧ m2 ≤ 10 by omega)
  clear hl1 hl2 hm1 hm2
  have ES : Hid (OwnS w5.heap.size w5 (.slice (some ⟨w5.heap.size, 0, none⟩) 0 0) [] (w5.alloc (.cells #[] 9 (0, 0)))) := empS w5.heap.size w5 w5 (Below.refl _ _) (Nat.le_refl _)
  have EP : Hid (OwnP w5.heap.size w5 (.slice (some ⟨w5.heap.size, 0, none⟩) 0 0) [] (w5.alloc (.cells #[] 32 (0, 0)))) := empP w5.heap.size w5 w5 (Below.refl _ _) (Nat.le_refl _)
  go_region_held3 (fun w' => w'.cell? ⟨w.heap.size, 0, none⟩ = some (.slice A1 n1 c1) ∧ w'.cell? ⟨w.heap.size, 1, none⟩ = some (.slice A2 n2 c2) ∧ Kp (fun k => k = w.heap.size + 1) w5 w')
    (first | exact HS.out _ ((Kp.refl _ _).drew) | exact HS.out _ (((Kp.refl _ _).alloc _).drew) | exact HS.out _ ((((Kp.refl _ _).alloc _).alloc _).drew) | exact HS.out _ (Kp.of_below H3.out.2.1 _) | exact HS.out _ ((Kp.of_below H3.out.2.1 _).alloc _) | exact HS.out _ (Kp.of_below H5.out.2.1 _) | exact HS.out _ (kp_set2 (Kp.of_below H5.out.2.1 _) _ _))
    (first
      | (refine step_fewS _ rfl (.tmp 3) (.tmp 10) rfl w5.heap.size w5 _ (by rfl) (by first | exact ES.out.drew | exact (ES.out.alloc _).drew | exact (empS1 w5.heap.size w5 _ (Nat.le_refl _)).drew) A1 m1 c1 (p.take 9) (by rfl) L1.out D1.out.1 d1 N1.out (HQ1.out _ (by first | exact ((Below.refl _ _).alloc (Nat.le_refl _) _).drew | exact (((Below.refl _ _).alloc (Nat.le_refl _) _).alloc (by simp) _).drew)) ?_
         intro v3 w6 h3 g3
         first
           | have HP : Hid (OwnP w5.heap.size w5 (.slice (some ⟨w5.heap.size + 1, 0, none⟩) 0 0) [] w6) := OwnP.growS (ES.out.alloc _).drew (empP1 w5.heap.size w5 _ (Nat.le_refl _)).drew g3
           | have HP : Hid (OwnP w5.heap.size w5 (.slice (some ⟨w5.heap.size, 0, none⟩) 0 0) [] w6) := OwnP.growS (empS1 w5.heap.size w5 _ (Nat.le_refl _)).drew (EP.out.alloc _).drew g3
           | skip
         obtain ⟨A3, n3, p3, hv3⟩ := h3.ss.shape
         subst hv3
         have H3 := Lib.hid h3
         clear h3 g3)
      | (refine step_fewP _ rfl (.tmp 12) (.tmp 19) rfl w5.heap.size w5 _ (by rfl) (by first | exact HP.out | exact empP w5.heap.size w5 w6 H3.out.2.1 H3.out.2.2) A2 m2 c2 (q.take 9) (by rfl) L2.out D1.out.2 d2 N2.out (HQ2.out _ (by first | exact H3.out.2.1 | exact H3.out.2.1.alloc H3.out.2.2 _)) ?_
         intro v4 w7 h4 g4
         have H5 : Hid (OwnS w5.heap.size w5 (.slice A3 n3 p3) (p.take 9) w7) := by first | exact OwnS.growP H3.out HP.out g4 | exact OwnS.growP (H3.out.alloc _) (empP w5.heap.size w5 w6 H3.out.2.1 H3.out.2.2) g4
         obtain ⟨A4, n4, p4, hv4⟩ := h4.ps.shape
         subst hv4
         have H4 := Lib.hid h4
         have HR := Lib.hid ((H5.out.2.1.block _ hlt5).trans HKr.out)
         obtain ⟨r0, r1, r2, r3⟩ := blk2 HR.out
         clear h4 g4))
  all_goals
    go_wp2
    exact few_end (R := w.heap.size + 1) rfl HR.out H5.out H4.out HB.out (by omega)
end Go.Proofs.Ytcppccpglcolnaa
