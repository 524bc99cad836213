/-
  The walk of DomMoves.
-/
import Derived.Test.YtdbnhpghemlkbaaMvs
import Derived.Test.YtdbnhpghemlkbaaCat
import Derived.Test.YtdbnhpghemlkbaaAin
import Derived.Deep.CutBlock
import Derived.Deep.DeepCutAuto
import Derived.Laws.BytesArg
namespace Go.Proofs.Ytdbnhpghemlkbaa
open Go.RowKit Go.PlainAid Dm
set_option maxRecDepth 100000

/-- the text of a new slice of one byte -/
theorem one_text (w : World) (x : Int) : ∃ s1 : ByteArray, (convert 55 9 (.slice (some ⟨w.heap.size, 0, none⟩) 1 1)).run Try.prog (w.alloc (.cells #[.int .u8 x] 5 (0, 0))) = .ok (.string s1) (w.alloc (.cells #[.int .u8 x] 5 (0, 0))) := by
  refine ⟨_, run_convert_bytes_arg (w.alloc (.cells #[.int .u8 x] 5 (0, 0))) 55 5 Try.underlying55 Try.underlying5 w.heap.size 0 1 1 [x] rfl ?_ 9 Try.underlying9⟩
  intro i hi
  obtain rfl : i = 0 := by omega
  rw [blk_cell (blk_new _ _)]
  rfl
theorem within_nat (n : Int) (hi : Nat) (w : World) (h2 : hi ≤ 1000) :
    Calls Try.prog 31 #[.int .i64 n, .int .i64 0, .int .i64 hi] w fun e w' => (∃ r : Nat, r ≤ hi ∧ e = .returned (.int .i64 r)) ∧ w' = w := by
  refine (within_any n hi w (by omega) (by omega)).mono ?_
  rintro e w' ⟨he, hw⟩
  have := wi_in n hi (by omega)
  exact ⟨⟨(wi n hi).toNat, by omega, by rw [he, Int.toNat_of_nonneg this.1]⟩, hw.symm⟩
/-- what the walk keeps: the dom, and the row -/
def Sto (w0 : World) (D : Nat) (s : St) (l : List Nat) (v : Value) (w : World) : Prop := ∃ ro, Mine mP ro D s w0.heap.size w0 w ∧ w.ownsRow w0.heap.size 3 1 v l.length (niC l) ∧ ∀ g, v.ownBlock = some g → ro g = 0
theorem Sto.call {w0 w w' : World} {D : Nat} {s : St} {l : List Nat} {v : Value} (h : Sto w0 D s l v w) (hb : Below w.heap.size w w') : Sto w0 D s l v w' := by
  obtain ⟨ro, h1, h3, h4⟩ := h
  exact ⟨ro, h1.call hb, owns_sameB h3 (fun g hg => hb.block g (h3.lt g hg).2), h4⟩
theorem sto_turn {ro : Ros} {w0 w w' : World} {D : Nat} {s s' : St} {l : List Nat} {v : Value} (hM : Mine mP ro D s w0.heap.size w0 w) (ho : w.ownsRow w0.heap.size 3 1 v l.length (niC l)) (hz : ∀ g, v.ownBlock = some g → ro g = 0) (ht : Turn mP ro D s' (fun _ => True) w w') : Sto w0 D s' l v w' := by
  obtain ⟨ro', hd, h2, h3, h4⟩ := ht
  obtain ⟨h5, h6, h7, h8⟩ := hM
  refine ⟨ro', ⟨hd, fun k hk => (h3 k hk).elim (h6 k) (fun e => Nat.le_trans h8 e), h7.trans (h4.below h8 (fun k hk e => by have := h6 k e.1; omega)), Nat.le_trans h8 h4.size⟩, ?_, fun g hg => ?_⟩
  · exact owns_sameB ho (fun g hg => h4.block g (ho.lt g hg).2 (fun e => e.1 (hz g hg)))
  · by_cases e : ro' g = 0
    · exact e
    · rcases h3 g e with e | e
      · exact absurd (hz g hg) e
      · have := (ho.lt g hg).2
        omega
theorem owns_mono {w : World} {a b n : Nat} {e : TypeId} {size : Nat} {v : Value} {xs : List Value} (h : w.ownsRow a e size v n xs) (hb : b ≤ a) : w.ownsRow b e size v n xs := by
  obtain ⟨h1, h2⟩ := h
  refine ⟨h1, h2.imp id ?_⟩
  rintro ⟨g, cap, cur, e1, e2, e3⟩
  exact ⟨g, cap, cur, e1, Nat.le_trans hb e2, e3⟩
theorem Sto.bw {w0 w : World} {D : Nat} {s : St} {l : List Nat} {v : Value} (h : Sto w0 D s l v w) : Below w0.heap.size w0 w := by
  obtain ⟨ro, h1, _⟩ := h
  exact h1.2.2.1
theorem Ia.at_ {w w' : World} {A : Option Addr} {n : Nat} {f : Nat → Int} (h : Ia w A n f) (hb : Below w.heap.size w w') (i : Nat) (hi : i < n) : ∃ b o, A = some ⟨b, o, none⟩ ∧ w'.cell? ⟨b, o + i, none⟩ = some (.int .i64 (f i)) := (h.call hb).2 i hi
theorem ni_cap {w : World} {A : Option Addr} {c n : Nat} {l : List Nat} (h : Ni w (.slice A n c) l) : l.length ≤ c := by
  obtain ⟨A', c', e, h2, _⟩ := h
  cases e
  exact h2
theorem ni_from {w : World} {A : Option Addr} {c n : Nat} {l : List Nat} (h : Ni w (.slice A n c) l) (r : Nat) (hr : r ≤ l.length) : Ni w (.slice (if c = r then A else Option.map (fun x => x.add r) A) (n - r) (c - r)) (l.drop r) := by
  have hc := ni_cap h
  obtain rfl : n = l.length := by obtain ⟨_, _, e, _⟩ := h; cases e; rfl
  refine h.rest r hr rfl rfl (fun b o e hl => ?_) (fun e => ?_)
  · subst e
    rw [if_neg (by omega)]
    show some ((⟨b, o, none⟩ : Addr).add r) = _
    rw [Addr.add_lit]
  · split at e
    · exact e
    · cases A with
      | none => rfl
      | some a => cases e
theorem owns_low' {w : World} {B n : Nat} {e : TypeId} {size : Nat} {v : Value} {xs : List Value} (h : w.ownsRow B e size v n xs) : w.ownsRow 0 e size v n xs := owns_mono h (Nat.zero_le _)
theorem Sto.ni {w0 w : World} {D : Nat} {s : St} {l : List Nat} {v : Value} (h : Sto w0 D s l v w) : Ni w v l := by
  obtain ⟨ro, _, h3, _⟩ := h
  exact owns_ni h3
/-- a call's own row under way -/
structure Cs (wr w : World) (v : Value) (l : List Nat) : Prop where
  bw : Below wr.heap.size wr w
  ow : w.ownsRow wr.heap.size 3 1 v l.length (niC l)
def On (w : World) (v : Value) (nb x : Nat) : Prop := nb < w.heap.size ∧ (∀ g, v.ownBlock = some g → g ≠ nb) ∧ Ni w (.slice (some ⟨nb, 0, none⟩) 1 1) [x]
theorem cs_nil {wr W : World} (h : Below wr.heap.size wr W) : Cs wr (W.alloc (.cells #[] 3 (0, 0))) (.slice (some ⟨W.heap.size, 0, none⟩) 0 0) [] :=
  ⟨h.alloc h.size _, World.ownsRow_lit W #[] 0 h.size (by decide) rfl⟩
theorem Cs.alloc {wr w : World} {v : Value} {l : List Nat} (h : Cs wr w v l) (o : Obj) : Cs wr (w.alloc o) v l :=
  ⟨h.bw.alloc h.bw.size o, owns_sameB h.ow (fun g hg => ((Below.refl _ w).alloc (Nat.le_refl _) o).block g (h.ow.lt g hg).2)⟩
theorem Cs.on {wr w : World} {v : Value} {l : List Nat} (h : Cs wr w v l) (x : Nat) : On (w.alloc (.cells #[.int .i64 (x : Int)] 3 (0, 0))) v w.heap.size x :=
  ⟨by simp, fun g hg => by have := (h.ow.lt g hg).2; omega, ni_one (blk_new w _)⟩
theorem on_nil {w : World} {nb x : Nat} (h : nb < w.heap.size) (hn : Ni w (.slice (some ⟨nb, 0, none⟩) 1 1) [x]) (o : Obj) : On (w.alloc o) (.slice (some ⟨w.heap.size, 0, none⟩) 0 0) nb x :=
  ⟨by simp; omega, fun g hg => (by cases hg; exact Nat.ne_of_gt h), hn.call ((Below.refl _ w).alloc (Nat.le_refl _) o)⟩
theorem wp_cs {o : Oper} {a : Act} {K : Act → World → Prop} {Q : Exit → Act → World → Prop} {wr w : World} {v : Value} {xs : List Nat} (hC : Cs wr w v xs) (s x : Operand) (ho : o.op = .call { callee := .builtin .append, args := #[s, x], argTypes := #[51, 51] }) (hs : a.eval s = v) (sv : Value) (ys : List Nat) (hx : a.eval x = sv) (hr : Ni w sv ys) (hn : xs.length ≤ 100000000) (hm : ys.length ≤ 100000000)
    (h : ∀ v' w', Cs wr w' v' (xs ++ ys) → (∀ nb x, On w v nb x → On w' v' nb x) → K (a.put o.dst v') w') : o.wp Try.prog a w K Q := by
  refine wp_cat w s x ho wr.heap.size v xs hs hC.ow hC.bw.size sv ys hx hr hn hm (fun v' w' h1 h2 h3 => h v' w' ⟨?_, h1⟩ ?_)
  · have hk : Kp (fun k => v.ownBlock = some k) w w' := (Kp.refl _ w).grown h2 (fun k _ e => e)
    exact hC.bw.trans (hk.below hC.bw.size (fun k hk e => by have := (hC.ow.lt k e).1; omega))
  · rintro nb x ⟨g1, g2, g3⟩
    have hk : Kp (fun k => v.ownBlock = some k) w w' := (Kp.refl _ w).grown h2 (fun k _ e => e)
    refine ⟨Nat.lt_of_lt_of_le g1 hk.size, fun g hg => ?_, ?_⟩
    · rcases h3 with e | e
      · exact g2 g (by rw [← e]; exact hg)
      · rw [e] at hg
        cases hg
        omega
    · obtain ⟨A, c, e, q1, q2, q3⟩ := g3
      refine ⟨A, c, e, q1, q2, fun i hi => ?_⟩
      obtain ⟨b, o, e1, e2⟩ := q3 i hi
      refine ⟨b, o, e1, ?_⟩
      rw [e1] at e
      cases e
      rw [hk.cell g1 (fun e => g2 _ e rfl)]
      exact e2
theorem Sto.cs {w0 wr w : World} {D : Nat} {s : St} {l l' : List Nat} {v v' : Value} (h : Sto w0 D s l v wr) (hc : Cs wr w v' l') : Sto w0 D s l' v' w := by
  obtain ⟨ro, h1, h3, h4⟩ := h
  refine ⟨ro, h1.call hc.bw, owns_mono hc.ow h1.2.2.2, fun g hg => ?_⟩
  have hl := (hc.ow.lt g hg).1
  obtain ⟨N, c, fv, av, kv, hR⟩ := h1.1
  by_cases e : ro g = 0
  · exact e
  · have := hR.lt g e
    omega

set_option maxHeartbeats 12800000 in
theorem moves6 (A0 A1 A2 : Option Addr) (m0 m1 m2 c0 c1 c2 : Nat) (g0 g1 g2 : Nat → Int) (w : World) (h0 : Ia w A0 m0 g0) (h1 : Ia w A1 m1 g1) (h2 : Ia w A2 m2 g2) :
    Calls Try.prog 6 #[.slice A0 m0 c0, .slice A1 m1 c1, .slice A2 m2 c2] w fun e w' => e = .returned (.bool true) ∧ Below w.heap.size w w' := by
  have I0 := Lib.hid h0
  have I1 := Lib.hid h1
  have I2 := Lib.hid h2
  clear h0 h1 h2
  go_enter Try.func6, Try.ntmps6
  go_wp2_with fail
  refine (new7 w).mono ?_
  rintro e w1 he
  obtain ⟨D, ro1, rfl, M1⟩ := he.mine
  replace M1 := Lib.hid M1
  clear he
  go_wp2_with fail
  refine (element8 ⟨#[97]⟩ ⟨#[]⟩ w1 M1.out.1 inv_new (by decide)).mono ?_
  rintro e w2 ⟨rfl, TU⟩
  obtain ⟨ro2, M2⟩ := M1.out.turn TU
  change Mine mP ro2 D mo1 w.heap.size w w2 at M2
  replace M2 := Lib.hid M2
  rw [f1]
  clear TU M1
  go_wp2_with fail
  refine (element8 ⟨#[98]⟩ ⟨#[]⟩ w2 M2.out.1 mo_v1 (by decide)).mono ?_
  rintro e w3 ⟨rfl, TU⟩
  obtain ⟨ro3, M3⟩ := M2.out.turn TU
  change Mine mP ro3 D mo2 w.heap.size w w3 at M3
  replace M3 := Lib.hid M3
  rw [show mo1.fresh = 3 from rfl]
  clear TU M2
  go_wp2_with fail
  refine (insert10_yes 1 2 0 w3 M3.out.1 mo_v2 mo_m3 (by decide)).mono ?_
  rintro e w4 ⟨rfl, TU⟩
  obtain ⟨ro4, M4⟩ := M3.out.turn TU
  change Mine mP ro4 D mo3 w.heap.size w w4 at M4
  replace M4 := Lib.hid M4
  clear TU M3
  go_wp2_with fail
  refine (insert10_yes 1 3 9 w4 M4.out.1 mo_v3 mo_m4 (by decide)).mono ?_
  rintro e w5 ⟨rfl, TU⟩
  obtain ⟨ro5, M5⟩ := M4.out.turn TU
  change Mine mP ro5 D mo4 w.heap.size w w5 at M5
  have S0 : Hid (Sto w D mo4 [] (.slice none 0 0) w5) := ⟨ro5, M5, World.ownsRow_nil _ _ _ _, fun g hg => by cases hg⟩
  clear TU M4 M5
  go_upto_block 0 with fail
  go_cut [10] (fun p10 wz => ∃ (s : St) (row : List Nat) (A : Option Addr) (c : Nat), row.length ≤ 8 ∧ p10 = .slice A row.length c ∧ Hid (Mv s row []) ∧ Hid (Sto w D s row (.slice A row.length c) wz))
  case first =>
    go_wp2_with fail
    go_loopw [11, 10] (fun p11 p10 wr => ∃ (s : St) (row : List Nat) (A : Option Addr) (c : Nat), row.length ≤ 8 ∧ p11 = .int .i64 row.length ∧ p10 = .slice A row.length c ∧ Hid (Mv s row []) ∧ Hid (Sto w D s row (.slice A row.length c) wr)) (fun p _ _ => 8 - (intOf p).toNat)
    case atStart => exact ⟨mo4, [], none, 0, by decide, rfl, rfl, mo_mv, S0.out⟩
    case round =>
      obtain ⟨s, row, A, c, hr8, rfl, rfl, MV, S1⟩ := hrel
      clear S0
      by_cases hc : row.length < m0 ∧ row.length < 8
      · have d0 : (row.length : Int) < (m0 : Int) := by omega
        have d1 : (row.length : Int) < 8 := by omega
        obtain ⟨xb, xo, rfl, -⟩ := I0.out.at_ S1.out.bw row.length hc.1
        have hc0 := Lib.hid hc.1
        clear hc
        obtain ⟨key, hkey⟩ := one_text wr (48 + row.length)
        have S2 := Lib.hid (S1.out.call ((Below.refl _ wr).alloc (Nat.le_refl _) (.cells #[.int .u8 (48 + row.length)] 5 (0, 0))))
        go_wp2_with fail
        clear hkey S1
        generalize wr.alloc _ = w6 at *
        have W1 := Lib.hid (mv_new MV.out key)
        have htop : s.top ≤ 100 := by have := MV.out.top; simp at this; omega
        obtain ⟨ro6, M6, O6, Z6⟩ := S2.out
        have V6 := Lib.hid (inv_new_node MV.out.inv ⟨#[107]⟩ key ⟨#[]⟩)
        have V0 := Lib.hid MV.out.inv
        clear S2
        refine (element8 ⟨#[107]⟩ key w6 M6.1 V0.out (by omega)).mono ?_
        rintro e w7 ⟨rfl, TU⟩
        have S7 := Lib.hid (sto_turn M6 O6 Z6 TU)
        have hfr : s.fresh = s.top + 1 := (W1.out 0 (Nat.zero_le _)).2.1
        rw [hfr]
        generalize hx : s.top + 1 = x at *
        have hx2 : x ≤ 101 := by omega
        replace hx := Lib.hid hx
        have htop1 : (s.make (newNd ⟨#[107]⟩ key ⟨#[]⟩)).top ≤ 101 := by unfold St.make; rw [MV.out.fr]; simp; omega
        generalize s.make (newNd ⟨#[107]⟩ key ⟨#[]⟩) = s1 at *
        clear TU M6 O6 Z6 hfr V0
        obtain ⟨b0, o0, e0, hcx⟩ := I0.out.at_ S7.out.bw row.length hc0.out
        obtain ⟨rfl, rfl⟩ : xb = b0 ∧ xo = o0 := by cases e0; exact ⟨rfl, rfl⟩
        clear e0
        go_wp2_with fail
        refine (within_nat (g0 row.length) row.length w7 (by omega)).mono ?_
        rintro e wq ⟨⟨r, hr, rfl⟩, rfl⟩
        clear hcx
        obtain ⟨hm, -, mv⟩ := W1.out r hr
        have MV2 := Lib.hid mv
        have HM := Lib.hid hm
        clear W1 mv hm
        obtain ⟨ro7, M7, O7, Z7⟩ := S7.out
        go_wp2_with fail
        refine (insert10_yes 2 x r wq M7.1 V6.out HM.out (by omega)).mono ?_
        rintro e w9 ⟨rfl, TU⟩
        have RW := Lib.hid (sto_turn M7 O7 Z7 TU)
        clear TU M7 O7 Z7 HM V6 S7
        generalize s1.insert 2 x r = s2 at *
        have hcc := ni_cap RW.out.ni
        have hrc : (r : Int) ≤ (c : Int) := by omega
        have hrn : (r : Int) ≤ (row.length : Int) := by omega
        have NT : Hid (∀ W, Below w9.heap.size w9 W → Ni W (.slice A r c) (row.take r)) := fun W hW => (RW.out.ni.call hW).take r hr
        have ND : Hid (∀ W, Below w9.heap.size w9 W → Ni W (.slice (if c = r then A else Option.map (fun x => x.add r) A) (row.length - r) (c - r)) (row.drop r)) := fun W hW => ni_from (RW.out.ni.call hW) r hr
        go_upto_region 15 with fail
        refine wp_region_pre 12 (1 :: 2 :: 3 :: 5 :: 8 :: 9 :: 10 :: []) 6 (fun W => Below w9.heap.size w9 W) (by kernel_rfl) (by kernel_rfl) (by decide) (by kernel_rfl) (fun d _ _ _ _ h => by cases d <;> exact h) ((Below.refl _ w9).drew) ?_
        refine pre_q (d := some 70) (v := ?_) rfl rfl (Or.inl ⟨by rfl, ?_⟩) ?_
        rotate_left
        · intro wz hSw
          go_simp
          (try with_reducible rfl)
        try simp only [Act.put, List.setIfInBounds_toArray, List.set_cons_zero, List.set_cons_succ]
        refine pre_q (d := some 71) (v := ?_) rfl rfl (Or.inl ⟨by rfl, ?_⟩) ?_
        rotate_left
        · intro wz hSw
          go_simp
          (try with_reducible rfl)
        try simp only [Act.put, List.setIfInBounds_toArray, List.set_cons_zero, List.set_cons_succ]
        refine pre_q (d := some 72) (v := ?_) rfl rfl (Or.inl ⟨by rfl, ?_⟩) ?_
        rotate_left
        · intro wz hSw
          go_simp
          (try with_reducible rfl)
        try simp only [Act.put, List.setIfInBounds_toArray, List.set_cons_zero, List.set_cons_succ]
        refine pre_q (d := some 74) (v := ?_) rfl rfl (Or.inl ⟨by rfl, ?_⟩) ?_
        rotate_left
        · intro wz hSw
          go_simp
          (try with_reducible rfl)
        try simp only [Act.put, List.setIfInBounds_toArray, List.set_cons_zero, List.set_cons_succ]
        refine pre_q (d := some 77) (v := ?_) rfl rfl (Or.inl ⟨by rfl, ?_⟩) ?_
        rotate_left
        · intro wz hSw
          go_simp
          (try with_reducible rfl)
        try simp only [Act.put, List.setIfInBounds_toArray, List.set_cons_zero, List.set_cons_succ]
        refine pre_q (d := some 78) (v := ?_) rfl rfl (Or.inl ⟨by rfl, ?_⟩) ?_
        rotate_left
        · intro wz hSw
          go_simp
          (try with_reducible rfl)
        try simp only [Act.put, List.setIfInBounds_toArray, List.set_cons_zero, List.set_cons_succ]
        refine pre_q (d := some 79) (v := ?_) rfl rfl (Or.inl ⟨by rfl, ?_⟩) ?_
        rotate_left
        · intro wz hSw
          go_simp
          (try with_reducible rfl)
        try simp only [Act.put, List.setIfInBounds_toArray, List.set_cons_zero, List.set_cons_succ]
        refine pre_nil ?_
        refine sinkw_vee (i := 0) (j := 6) (by kernel_rfl) ?_ ?_
        focus
          refine wpOp_step rfl (fun K' hK => ?_)
          have HK := Lib.hid hK
          clear hK
          rw [if_pos (by rfl)]
          go_simp
          have C0 : Hid (Cs w9 ((w9.alloc (.cells #[] 3 (0, 0))).drew) (.slice (some ⟨w9.heap.size, 0, none⟩) 0 0) []) := cs_nil ((Below.refl _ w9).drew)
          generalize (w9.alloc _).drew = x0 at *
          refine HK.out _ _ ⟨Or.inr C0.out.bw, ?_⟩
          clear HK
          try change SinkW _ _ _ _ _ _ _ _ (Act.put _ (some 69) _) _
          try simp only [Act.put, List.setIfInBounds_toArray, List.set_cons_zero, List.set_cons_succ]
          refine sinkw_vee (i := 4) (j := 6) (by kernel_rfl) ?_ ?_
          focus
            refine wpOp_step rfl (fun K' hK => ?_)
            have HK := Lib.hid hK
            clear hK
            rw [if_pos (by rfl)]
            refine wp_cs C0.out (.tmp 69) (.tmp 72) rfl rfl _ (row.take r) rfl (NT.out _ C0.out.bw) (by simp; try omega) (by simp; try omega) (fun v4 x4 h4 n4 => ?_)
            have C4 := Lib.hid h4
            clear h4 n4
            refine HK.out _ _ ⟨Or.inr C4.out.bw, ?_⟩
            clear HK
            try change SinkW _ _ _ _ _ _ _ _ (Act.put _ (some 73) _) _
            try simp only [Act.put, List.setIfInBounds_toArray, List.set_cons_zero, List.set_cons_succ]
            refine sinkw_one (i := 6) (by kernel_rfl) ?_
            refine wpOp_step rfl (fun K' hK => ?_)
            have HK := Lib.hid hK
            clear hK
            rw [if_pos (by rfl)]
            go_simp
            have C6 := Lib.hid (C4.out.alloc (.cells #[.int .i64 (x : Int)] 3 (0, 0)))
            have N6 := Lib.hid (C4.out.on x)
            generalize x4.alloc _ = x6 at *
            refine HK.out _ _ ⟨Or.inr C6.out.bw, ?_⟩
            clear HK
            try change SinkW _ _ _ _ _ _ _ _ (Act.put _ (some 75) _) _
            try simp only [Act.put, List.setIfInBounds_toArray, List.set_cons_zero, List.set_cons_succ]
            refine sinkw_one (i := 7) (by kernel_rfl) ?_
            refine wpOp_step rfl (fun K' hK => ?_)
            have HK := Lib.hid hK
            clear hK
            rw [if_pos (by rfl)]
            refine wp_cs C6.out (.tmp 73) (.tmp 75) rfl rfl _ [x] rfl (N6.out.2.2) (by simp; try omega) (by simp; try omega) (fun v7 x7 h7 n7 => ?_)
            have C7 := Lib.hid h7
            clear h7 n7
            refine HK.out _ _ ⟨Or.inr C7.out.bw, ?_⟩
            clear HK
            try change SinkW _ _ _ _ _ _ _ _ (Act.put _ (some 76) _) _
            try simp only [Act.put, List.setIfInBounds_toArray, List.set_cons_zero, List.set_cons_succ]
            refine sinkw_one (i := 11) (by kernel_rfl) ?_
            refine wpOp_step rfl (fun K' hK => ?_)
            have HK := Lib.hid hK
            clear hK
            rw [if_pos (by rfl)]
            refine wp_cs C7.out (.tmp 76) (.tmp 79) rfl rfl _ (row.drop r) rfl (ND.out _ C7.out.bw) (by simp; try omega) (by simp; try omega) (fun v11 x11 h11 n11 => ?_)
            have C11 := Lib.hid h11
            clear h11 n11
            have CE : Hid (Cs w9 x11 v11 (insL row r x)) := by have h := C11.out; rw [insL_cat] at h; exact h
            clear C11
            obtain ⟨AE, cE, rfl⟩ := owns_shape CE.out.ow
            refine HK.out _ _ ⟨Or.inr CE.out.bw, ?_⟩
            clear HK
            try change SinkW _ _ _ _ _ _ _ _ (Act.put _ (some 80) _) _
            try simp only [Act.put, List.setIfInBounds_toArray, List.set_cons_zero, List.set_cons_succ]
            refine sinkw_one (i := 12) (by kernel_rfl) ?_
            refine wpOp_step rfl (fun K' hK => ?_)
            have HK := Lib.hid hK
            clear hK
            rw [if_pos (by rfl)]
            go_simp
            refine HK.out _ _ ⟨Or.inl rfl, ?_⟩
            clear HK
            try change SinkW _ _ _ _ _ _ _ _ (Act.put _ (some 10) _) _
            try simp only [Act.put, List.setIfInBounds_toArray, List.set_cons_zero, List.set_cons_succ]
            refine sinkw_done (by kernel_rfl) ?_
            go_wp2_with fail
            go_roundw
            case rel => exact ⟨s2, insL row r x, AE, cE, by rw [insL_len row r x hr]; omega, by rw [insL_len row r x hr]; go_num, rfl, MV2.out, RW.out.cs CE.out⟩
            case measure => simp [intOf]; omega
          focus
            refine wpOp_step rfl (fun K' hK => ?_)
            have HK := Lib.hid hK
            clear hK
            rw [if_pos (by rfl)]
            go_simp
            have C6 := Lib.hid (C0.out.alloc (.cells #[.int .i64 (x : Int)] 3 (0, 0)))
            have N6 := Lib.hid (C0.out.on x)
            generalize x0.alloc _ = x6 at *
            refine HK.out _ _ ⟨Or.inr C6.out.bw, ?_⟩
            clear HK
            try change SinkW _ _ _ _ _ _ _ _ (Act.put _ (some 75) _) _
            try simp only [Act.put, List.setIfInBounds_toArray, List.set_cons_zero, List.set_cons_succ]
            refine sinkw_one (i := 4) (by kernel_rfl) ?_
            refine wpOp_step rfl (fun K' hK => ?_)
            have HK := Lib.hid hK
            clear hK
            rw [if_pos (by rfl)]
            refine wp_cs C6.out (.tmp 69) (.tmp 72) rfl rfl _ (row.take r) rfl (NT.out _ C6.out.bw) (by simp; try omega) (by simp; try omega) (fun v4 x4 h4 n4 => ?_)
            have C4 := Lib.hid h4
            have N4 := Lib.hid (n4 _ _ N6.out)
            clear h4 n4
            refine HK.out _ _ ⟨Or.inr C4.out.bw, ?_⟩
            clear HK
            try change SinkW _ _ _ _ _ _ _ _ (Act.put _ (some 73) _) _
            try simp only [Act.put, List.setIfInBounds_toArray, List.set_cons_zero, List.set_cons_succ]
            refine sinkw_one (i := 7) (by kernel_rfl) ?_
            refine wpOp_step rfl (fun K' hK => ?_)
            have HK := Lib.hid hK
            clear hK
            rw [if_pos (by rfl)]
            refine wp_cs C4.out (.tmp 73) (.tmp 75) rfl rfl _ [x] rfl (N4.out.2.2) (by simp; try omega) (by simp; try omega) (fun v7 x7 h7 n7 => ?_)
            have C7 := Lib.hid h7
            clear h7 n7
            refine HK.out _ _ ⟨Or.inr C7.out.bw, ?_⟩
            clear HK
            try change SinkW _ _ _ _ _ _ _ _ (Act.put _ (some 76) _) _
            try simp only [Act.put, List.setIfInBounds_toArray, List.set_cons_zero, List.set_cons_succ]
            refine sinkw_one (i := 11) (by kernel_rfl) ?_
            refine wpOp_step rfl (fun K' hK => ?_)
            have HK := Lib.hid hK
            clear hK
            rw [if_pos (by rfl)]
            refine wp_cs C7.out (.tmp 76) (.tmp 79) rfl rfl _ (row.drop r) rfl (ND.out _ C7.out.bw) (by simp; try omega) (by simp; try omega) (fun v11 x11 h11 n11 => ?_)
            have C11 := Lib.hid h11
            clear h11 n11
            have CE : Hid (Cs w9 x11 v11 (insL row r x)) := by have h := C11.out; rw [insL_cat] at h; exact h
            clear C11
            obtain ⟨AE, cE, rfl⟩ := owns_shape CE.out.ow
            refine HK.out _ _ ⟨Or.inr CE.out.bw, ?_⟩
            clear HK
            try change SinkW _ _ _ _ _ _ _ _ (Act.put _ (some 80) _) _
            try simp only [Act.put, List.setIfInBounds_toArray, List.set_cons_zero, List.set_cons_succ]
            refine sinkw_one (i := 12) (by kernel_rfl) ?_
            refine wpOp_step rfl (fun K' hK => ?_)
            have HK := Lib.hid hK
            clear hK
            rw [if_pos (by rfl)]
            go_simp
            refine HK.out _ _ ⟨Or.inl rfl, ?_⟩
            clear HK
            try change SinkW _ _ _ _ _ _ _ _ (Act.put _ (some 10) _) _
            try simp only [Act.put, List.setIfInBounds_toArray, List.set_cons_zero, List.set_cons_succ]
            refine sinkw_done (by kernel_rfl) ?_
            go_wp2_with fail
            go_roundw
            case rel => exact ⟨s2, insL row r x, AE, cE, by rw [insL_len row r x hr]; omega, by rw [insL_len row r x hr]; go_num, rfl, MV2.out, RW.out.cs CE.out⟩
            case measure => simp [intOf]; omega
        focus
          refine wpOp_step rfl (fun K' hK => ?_)
          have HK := Lib.hid hK
          clear hK
          rw [if_pos (by rfl)]
          go_simp
          have B6 : Hid (Below w9.heap.size w9 ((w9.alloc (.cells #[.int .i64 (x : Int)] 3 (0, 0))).drew)) := ((Below.refl _ w9).alloc (Nat.le_refl _) _).drew
          have N6 : Hid (Ni ((w9.alloc (.cells #[.int .i64 (x : Int)] 3 (0, 0))).drew) (.slice (some ⟨w9.heap.size, 0, none⟩) 1 1) [x]) := ni_one (blk_new w9 _)
          have NB : Hid (w9.heap.size < ((w9.alloc (.cells #[.int .i64 (x : Int)] 3 (0, 0))).drew).heap.size) := by show _ < (World.alloc _ _).heap.size; simp
          generalize (w9.alloc _).drew = x6 at *
          refine HK.out _ _ ⟨Or.inr B6.out, ?_⟩
          clear HK
          try change SinkW _ _ _ _ _ _ _ _ (Act.put _ (some 75) _) _
          try simp only [Act.put, List.setIfInBounds_toArray, List.set_cons_zero, List.set_cons_succ]
          refine sinkw_one (i := 0) (by kernel_rfl) ?_
          refine wpOp_step rfl (fun K' hK => ?_)
          have HK := Lib.hid hK
          clear hK
          rw [if_pos (by rfl)]
          go_simp
          have C0 : Hid (Cs w9 (x6.alloc (.cells #[] 3 (0, 0))) (.slice (some ⟨x6.heap.size, 0, none⟩) 0 0) []) := cs_nil B6.out
          have N0 := Lib.hid (on_nil NB.out N6.out (.cells #[] 3 (0, 0)))
          generalize x6.alloc _ = x0 at *
          refine HK.out _ _ ⟨Or.inr C0.out.bw, ?_⟩
          clear HK
          try change SinkW _ _ _ _ _ _ _ _ (Act.put _ (some 69) _) _
          try simp only [Act.put, List.setIfInBounds_toArray, List.set_cons_zero, List.set_cons_succ]
          refine sinkw_one (i := 4) (by kernel_rfl) ?_
          refine wpOp_step rfl (fun K' hK => ?_)
          have HK := Lib.hid hK
          clear hK
          rw [if_pos (by rfl)]
          refine wp_cs C0.out (.tmp 69) (.tmp 72) rfl rfl _ (row.take r) rfl (NT.out _ C0.out.bw) (by simp; try omega) (by simp; try omega) (fun v4 x4 h4 n4 => ?_)
          have C4 := Lib.hid h4
          have N4 := Lib.hid (n4 _ _ N0.out)
          clear h4 n4
          refine HK.out _ _ ⟨Or.inr C4.out.bw, ?_⟩
          clear HK
          try change SinkW _ _ _ _ _ _ _ _ (Act.put _ (some 73) _) _
          try simp only [Act.put, List.setIfInBounds_toArray, List.set_cons_zero, List.set_cons_succ]
          refine sinkw_one (i := 7) (by kernel_rfl) ?_
          refine wpOp_step rfl (fun K' hK => ?_)
          have HK := Lib.hid hK
          clear hK
          rw [if_pos (by rfl)]
          refine wp_cs C4.out (.tmp 73) (.tmp 75) rfl rfl _ [x] rfl (N4.out.2.2) (by simp; try omega) (by simp; try omega) (fun v7 x7 h7 n7 => ?_)
          have C7 := Lib.hid h7
          clear h7 n7
          refine HK.out _ _ ⟨Or.inr C7.out.bw, ?_⟩
          clear HK
          try change SinkW _ _ _ _ _ _ _ _ (Act.put _ (some 76) _) _
          try simp only [Act.put, List.setIfInBounds_toArray, List.set_cons_zero, List.set_cons_succ]
          refine sinkw_one (i := 11) (by kernel_rfl) ?_
          refine wpOp_step rfl (fun K' hK => ?_)
          have HK := Lib.hid hK
          clear hK
          rw [if_pos (by rfl)]
          refine wp_cs C7.out (.tmp 76) (.tmp 79) rfl rfl _ (row.drop r) rfl (ND.out _ C7.out.bw) (by simp; try omega) (by simp; try omega) (fun v11 x11 h11 n11 => ?_)
          have C11 := Lib.hid h11
          clear h11 n11
          have CE : Hid (Cs w9 x11 v11 (insL row r x)) := by have h := C11.out; rw [insL_cat] at h; exact h
          clear C11
          obtain ⟨AE, cE, rfl⟩ := owns_shape CE.out.ow
          refine HK.out _ _ ⟨Or.inr CE.out.bw, ?_⟩
          clear HK
          try change SinkW _ _ _ _ _ _ _ _ (Act.put _ (some 80) _) _
          try simp only [Act.put, List.setIfInBounds_toArray, List.set_cons_zero, List.set_cons_succ]
          refine sinkw_one (i := 12) (by kernel_rfl) ?_
          refine wpOp_step rfl (fun K' hK => ?_)
          have HK := Lib.hid hK
          clear hK
          rw [if_pos (by rfl)]
          go_simp
          refine HK.out _ _ ⟨Or.inl rfl, ?_⟩
          clear HK
          try change SinkW _ _ _ _ _ _ _ _ (Act.put _ (some 10) _) _
          try simp only [Act.put, List.setIfInBounds_toArray, List.set_cons_zero, List.set_cons_succ]
          refine sinkw_done (by kernel_rfl) ?_
          go_wp2_with fail
          go_roundw
          case rel => exact ⟨s2, insL row r x, AE, cE, by rw [insL_len row r x hr]; omega, by rw [insL_len row r x hr]; go_num, rfl, MV2.out, RW.out.cs CE.out⟩
          case measure => simp [intOf]; omega
      · by_cases h0 : row.length < m0
        · have d0 : (row.length : Int) < (m0 : Int) := by omega
          have d1 : ¬ (row.length : Int) < 8 := by omega
          clear hc
          go_wp2_with fail
          go_meet
          exact ⟨s, row, A, c, hr8, rfl, MV.out, S1.out⟩
        · have d0 : ¬ (row.length : Int) < (m0 : Int) := by omega
          clear hc
          go_wp2_with fail
          go_meet
          exact ⟨s, row, A, c, hr8, rfl, MV.out, S1.out⟩
  case rest =>
    obtain ⟨s, row, A, c, hr8, rfl, MV, S1⟩ := hcut
    clear S0
    have htop : s.top ≤ 100 := by have := MV.out.top; simp at this; omega
    have hfl : s.freed.length ≤ 1000000 := by rw [MV.out.fr]; exact Nat.zero_le _
    obtain ⟨ro6, M6, O6, Z6⟩ := S1.out
    go_wp2_with fail
    refine (count16 wc M6.1 (by omega) hfl).mono ?_
    rintro e w6 ⟨rfl, hb⟩
    have S2 := Lib.hid (S1.out.call hb)
    clear M6 O6 Z6 hb S1
    rw [MV.out.fr]
    have hT : s.top = 3 + row.length := by have := MV.out.top; simpa using this
    generalize s.top = T0 at *
    generalize hn : row.length = n at *
    replace hn := Lib.hid hn
    go_upto_block 2 with fail
    go_cut [10] (fun p10 wz => ∃ (s : St) (row : List Nat) (A : Option Addr) (c : Nat), p10 = .slice A n c ∧ Hid (row.length = n) ∧ Hid (Mv s row []) ∧ Hid (Sto w D s row (.slice A n c) wz))
    case first =>
      go_wp2_with fail
      go_loopw [15, 10] (fun p15 p10 wr => ∃ (j : Nat) (s : St) (row : List Nat) (A : Option Addr) (c : Nat), j ≤ 12 ∧ p15 = .int .i64 j ∧ p10 = .slice A n c ∧ Hid (row.length = n) ∧ Hid (Mv s row []) ∧ Hid (Sto w D s row (.slice A n c) wr)) (fun p _ _ => 12 - (intOf p).toNat)
      case atStart => exact ⟨0, s, row, A, c, Nat.zero_le _, rfl, rfl, hn, MV.out, S2.out⟩
      case round =>
        clear S2 MV hn
        clear row
        obtain ⟨j, s, row, A, c, hj, rfl, rfl, hn, MV, S1⟩ := hrel
        by_cases hm1 : j < m1
        · have d0 : (j : Int) < (m1 : Int) := by omega
          by_cases hm2 : j < m2
          · have d1 : (j : Int) < (m2 : Int) := by omega
            by_cases hm3 : j < 12
            · have d2 : (j : Int) < 12 := by omega
              by_cases hm4 : 0 < n
              · have d3 : (0 : Int) < (n : Int) := by omega
                obtain ⟨xb, xo, rfl, hcx⟩ := I1.out.at_ S1.out.bw j hm1
                have e1 : (n : Int) - 1 = ((n - 1 : Nat) : Int) := by omega
                go_wp2_with fail
                refine (within_nat (g1 j) (n - 1) wr (by omega)).mono ?_
                rintro e w9 ⟨⟨r, hr, rfl⟩, rfl⟩
                clear hcx e1
                have hrl : r < row.length := by rw [hn.out]; omega
                have hcr : ∃ b o, A = some ⟨b, o, none⟩ ∧ w9.cell? ⟨b, o + r, none⟩ = some (.int .i64 (row.getD r 0 : Nat)) := by
                  obtain ⟨A', c', e, _, _, h4⟩ := S1.out.ni
                  cases e
                  exact h4 r hrl
                have hmem : row.getD r 0 ∈ row := by simp [List.getD, hrl]
                have FL : Hid (([] ++ row.take r) ++ row.drop (r + 1) = row.filter (fun k => decide (k ≠ row.getD r 0))) := by
                  have hnd : row.Nodup := by rw [← MV.out.k2]; exact MV.out.inv.nodup 2
                  show ([] ++ row.take r) ++ row.drop (r + 1) = _
                  rw [List.nil_append]
                  exact take_drop_filter hnd hrl
                have W2 := Lib.hid (mv_move MV.out hmem)
                have HM := Lib.hid (mv_may MV.out (Or.inl rfl) hmem)
                have MM := Lib.hid (MV.out.mem hmem)
                have V0 := Lib.hid MV.out.inv
                have hcc : n ≤ c := by have := ni_cap S1.out.ni; rw [hn.out] at this; exact this
                obtain ⟨rb, ro_, rfl, hcx⟩ := hcr
                generalize row.getD r 0 = cc at *
                have hd : (r : Int) < (n : Int) := by omega
                have hrc : (r : Int) ≤ (c : Int) := by omega
                have hrn : (r : Int) + 1 ≤ (n : Int) := by omega
                clear hmem
                go_upto_region 22 with fail
                clear hcx
                generalize hA : (some ⟨rb, ro_, none⟩ : Option Addr) = A at *
                clear hA
                have NT : Hid (∀ W, Below w9.heap.size w9 W → Ni W (.slice A r c) (row.take r)) := fun W hW => (S1.out.ni.call hW).take r (Nat.le_of_lt hrl)
                have ND : Hid (∀ W, Below w9.heap.size w9 W → Ni W (.slice (if c = r + 1 then A else Option.map (fun x => x.add (r + 1)) A) (n - (r + 1)) (c - (r + 1))) (row.drop (r + 1))) := fun W hW => ni_from (S1.out.ni.call hW) (r + 1) hrl
                have hq2 : (row.filter (fun k => decide (k ≠ cc))).length + 1 = n := by
                  have := congrArg List.length FL.out
                  have h2 := hn.out
                  simp only [List.nil_append, List.length_append, List.length_take, List.length_drop] at this
                  omega
                have htp : s.top ≤ 100 := by have := MV.out.top; rw [hn.out] at this; simp at this; omega
                have hrL : r < 9 := by omega
                have hrI : (r : Int) < 9 := by omega
                have wq : IntKind.i64.wrap ((r : Int) + 1) = (r : Int) + 1 := IntWalk.i64_in _ (by omega)
                have wt : ((r : Int) + 1).toNat = r + 1 := by omega
                have w0 : (0 : Int) ≤ (r : Int) + 1 := by omega
                have hrow : row.length ≤ 8 := by rw [hn.out]; exact hr8
                clear hrl hrL
                generalize row.filter (fun k => decide (k ≠ cc)) = rst at *
                refine wp_region_pre 10 (1 :: 2 :: 3 :: 5 :: 6 :: 7 :: 8 :: []) 4 (fun W => Below w9.heap.size w9 W) (by kernel_rfl) (by kernel_rfl) (by decide) (by kernel_rfl) (fun d _ _ _ _ h => by cases d <;> exact h) ((Below.refl _ w9).drew) ?_
                refine pre_q (d := some 117) (v := ?_) rfl rfl (Or.inl ⟨by rfl, ?_⟩) ?_
                rotate_left
                · intro wz hSw
                  go_simp
                  (try with_reducible rfl)
                try simp only [Act.put, List.setIfInBounds_toArray, List.set_cons_zero, List.set_cons_succ]
                refine pre_q (d := some 118) (v := ?_) rfl rfl (Or.inl ⟨by rfl, ?_⟩) ?_
                rotate_left
                · intro wz hSw
                  go_simp
                  (try with_reducible rfl)
                try simp only [Act.put, List.setIfInBounds_toArray, List.set_cons_zero, List.set_cons_succ]
                refine pre_q (d := some 119) (v := ?_) rfl rfl (Or.inl ⟨by rfl, ?_⟩) ?_
                rotate_left
                · intro wz hSw
                  go_simp
                  (try with_reducible rfl)
                try simp only [Act.put, List.setIfInBounds_toArray, List.set_cons_zero, List.set_cons_succ]
                refine pre_q (d := some 121) (v := ?_) rfl rfl (Or.inl ⟨by rfl, ?_⟩) ?_
                rotate_left
                · intro wz hSw
                  go_simp
                  (try with_reducible rfl)
                try simp only [Act.put, List.setIfInBounds_toArray, List.set_cons_zero, List.set_cons_succ]
                refine pre_q (d := some 122) (v := ?_) rfl rfl (Or.inl ⟨by rfl, ?_⟩) ?_
                rotate_left
                · intro wz hSw
                  go_simp
                  (try with_reducible rfl)
                try simp only [Act.put, List.setIfInBounds_toArray, List.set_cons_zero, List.set_cons_succ]
                refine pre_q (d := some 123) (v := ?_) rfl rfl (Or.inl ⟨by rfl, ?_⟩) ?_
                rotate_left
                · intro wz hSw
                  go_simp
                  (try with_reducible rfl)
                try simp only [Act.put, List.setIfInBounds_toArray, List.set_cons_zero, List.set_cons_succ]
                refine pre_q (d := some 124) (v := ?_) rfl rfl (Or.inl ⟨by rfl, ?_⟩) ?_
                rotate_left
                · intro wz hSw
                  go_simp
                  (try with_reducible rfl)
                try simp only [Act.put, List.setIfInBounds_toArray, List.set_cons_zero, List.set_cons_succ]
                refine pre_nil ?_
                refine sinkw_one (i := 0) (by kernel_rfl) ?_
                refine wpOp_step rfl (fun K' hK => ?_)
                have HK := Lib.hid hK
                clear hK
                rw [if_pos (by rfl)]
                go_simp
                have C0 : Hid (Cs w9 ((w9.alloc (.cells #[] 3 (0, 0))).drew) (.slice (some ⟨w9.heap.size, 0, none⟩) 0 0) []) := cs_nil ((Below.refl _ w9).drew)
                generalize (w9.alloc _).drew = x0 at *
                refine HK.out _ _ ⟨Or.inr C0.out.bw, ?_⟩
                clear HK
                try change SinkW _ _ _ _ _ _ _ _ (Act.put _ (some 116) _) _
                try simp only [Act.put, List.setIfInBounds_toArray, List.set_cons_zero, List.set_cons_succ]
                refine sinkw_one (i := 4) (by kernel_rfl) ?_
                refine wpOp_step rfl (fun K' hK => ?_)
                have HK := Lib.hid hK
                clear hK
                rw [if_pos (by rfl)]
                refine wp_cs C0.out (.tmp 116) (.tmp 119) rfl rfl _ (row.take r) rfl (NT.out _ C0.out.bw) (by simp; try omega) (by simp; try omega) (fun v4 x4 h4 n4 => ?_)
                have C4 := Lib.hid h4
                clear h4 n4
                refine HK.out _ _ ⟨Or.inr C4.out.bw, ?_⟩
                clear HK
                try change SinkW _ _ _ _ _ _ _ _ (Act.put _ (some 120) _) _
                try simp only [Act.put, List.setIfInBounds_toArray, List.set_cons_zero, List.set_cons_succ]
                refine sinkw_one (i := 9) (by kernel_rfl) ?_
                refine wpOp_step rfl (fun K' hK => ?_)
                have HK := Lib.hid hK
                clear hK
                rw [if_pos (by rfl)]
                refine wp_cs C4.out (.tmp 120) (.tmp 124) rfl rfl _ (row.drop (r + 1)) rfl (ND.out _ C4.out.bw) (by simp; try omega) (by simp; try omega) (fun v9 x9 h9 n9 => ?_)
                have C9 := Lib.hid h9
                clear h9 n9
                have CE : Hid (Cs w9 x9 v9 (rst)) := by have h := C9.out; rw [FL.out] at h; exact h
                clear C9
                obtain ⟨AE, cE, rfl⟩ := owns_shape CE.out.ow
                refine HK.out _ _ ⟨Or.inr CE.out.bw, ?_⟩
                clear HK
                try change SinkW _ _ _ _ _ _ _ _ (Act.put _ (some 125) _) _
                try simp only [Act.put, List.setIfInBounds_toArray, List.set_cons_zero, List.set_cons_succ]
                refine sinkw_one (i := 10) (by kernel_rfl) ?_
                refine wpOp_step rfl (fun K' hK => ?_)
                have HK := Lib.hid hK
                clear hK
                rw [if_pos (by rfl)]
                go_simp
                refine HK.out _ _ ⟨Or.inl rfl, ?_⟩
                clear HK
                try change SinkW _ _ _ _ _ _ _ _ (Act.put _ (some 18) _) _
                try simp only [Act.put, List.setIfInBounds_toArray, List.set_cons_zero, List.set_cons_succ]
                refine sinkw_done (by kernel_rfl) ?_
                have S3 := Lib.hid (S1.out.cs CE.out)
                clear CE S1 NT ND FL hrc hrn hcc hd hr MV hrow wq wt w0
                generalize @ite (Option Addr) (c = r + 1) _ _ _ = AQ
                generalize n - (r + 1) = nr
                generalize c - (r + 1) = cr
                generalize hq : rst.length = q at *
                replace hq := Lib.hid hq
                clear hn C4 C0
                clear row
                have hq3 : q ≤ 8 := by omega
                have Q2 := Lib.hid hq2
                clear hq2
                obtain ⟨yb, yo, rfl, hcx⟩ := I2.out.at_ S3.out.bw j hm2
                go_wp2_with fail
                refine (within_nat (g2 j) q x9 (by omega)).mono ?_
                rintro e w10 ⟨⟨t, ht, rfl⟩, rfl⟩
                clear hcx
                obtain ⟨ro7, M7, O7, Z7⟩ := S3.out
                go_wp2_with fail
                refine (insert10_yes 2 cc t w10 M7.1 V0.out HM.out (by omega)).mono ?_
                rintro e w14 ⟨rfl, TU⟩
                have RW := Lib.hid (sto_turn M7 O7 Z7 TU)
                have MV3 := Lib.hid (W2.out t ht)
                have HC : Hid (cc ∈ insL rst t cc) := by unfold Hid insL; simp
                have hL : (insL rst t cc).length = n := by rw [insL_len rst t cc (by rw [hq.out]; exact ht), hq.out]; exact Q2.out
                replace hL := Lib.hid hL
                have hcq : q ≤ cE := by have := ni_cap RW.out.ni; rw [hq.out] at this; exact this
                have htl : t ≤ rst.length := by rw [hq.out]; exact ht
                have hrl9 : rst.length ≤ 8 := by rw [hq.out]; exact hq3
                clear TU M7 O7 Z7 HM V0 S3 W2 htp
                generalize s.insert 2 cc t = s3 at *
                have NT : Hid (∀ W, Below w14.heap.size w14 W → Ni W (.slice AE t cE) (rst.take t)) := fun W hW => (RW.out.ni.call hW).take t htl
                have ND : Hid (∀ W, Below w14.heap.size w14 W → Ni W (.slice (if cE = t then AE else Option.map (fun x => x.add t) AE) (q - t) (cE - t)) (rst.drop t)) := fun W hW => ni_from (RW.out.ni.call hW) t htl
                have htc : (t : Int) ≤ (cE : Int) := by omega
                have htq : (t : Int) ≤ (q : Int) := by omega
                clear htl hq
                go_upto_region 26 with fail
                go_cut [10] (fun p10 wz => ∃ (A : Option Addr) (c : Nat), p10 = .slice A n c ∧ Hid (Sto w D s3 (insL rst t cc) (.slice A n c) wz))
                case first =>
                  refine wp_region_pre 12 (1 :: 2 :: 3 :: 5 :: 8 :: 9 :: 10 :: []) 6 (fun W => Below w14.heap.size w14 W) (by kernel_rfl) (by kernel_rfl) (by decide) (by kernel_rfl) (fun d _ _ _ _ h => by cases d <;> exact h) ((Below.refl _ w14).drew) ?_
                  refine pre_q (d := some 140) (v := ?_) rfl rfl (Or.inl ⟨by rfl, ?_⟩) ?_
                  rotate_left
                  · intro wz hSw
                    go_simp
                    (try with_reducible rfl)
                  try simp only [Act.put, List.setIfInBounds_toArray, List.set_cons_zero, List.set_cons_succ]
                  refine pre_q (d := some 141) (v := ?_) rfl rfl (Or.inl ⟨by rfl, ?_⟩) ?_
                  rotate_left
                  · intro wz hSw
                    go_simp
                    (try with_reducible rfl)
                  try simp only [Act.put, List.setIfInBounds_toArray, List.set_cons_zero, List.set_cons_succ]
                  refine pre_q (d := some 142) (v := ?_) rfl rfl (Or.inl ⟨by rfl, ?_⟩) ?_
                  rotate_left
                  · intro wz hSw
                    go_simp
                    (try with_reducible rfl)
                  try simp only [Act.put, List.setIfInBounds_toArray, List.set_cons_zero, List.set_cons_succ]
                  refine pre_q (d := some 144) (v := ?_) rfl rfl (Or.inl ⟨by rfl, ?_⟩) ?_
                  rotate_left
                  · intro wz hSw
                    go_simp
                    (try with_reducible rfl)
                  try simp only [Act.put, List.setIfInBounds_toArray, List.set_cons_zero, List.set_cons_succ]
                  refine pre_q (d := some 147) (v := ?_) rfl rfl (Or.inl ⟨by rfl, ?_⟩) ?_
                  rotate_left
                  · intro wz hSw
                    go_simp
                    (try with_reducible rfl)
                  try simp only [Act.put, List.setIfInBounds_toArray, List.set_cons_zero, List.set_cons_succ]
                  refine pre_q (d := some 148) (v := ?_) rfl rfl (Or.inl ⟨by rfl, ?_⟩) ?_
                  rotate_left
                  · intro wz hSw
                    go_simp
                    (try with_reducible rfl)
                  try simp only [Act.put, List.setIfInBounds_toArray, List.set_cons_zero, List.set_cons_succ]
                  refine pre_q (d := some 149) (v := ?_) rfl rfl (Or.inl ⟨by rfl, ?_⟩) ?_
                  rotate_left
                  · intro wz hSw
                    go_simp
                    (try with_reducible rfl)
                  try simp only [Act.put, List.setIfInBounds_toArray, List.set_cons_zero, List.set_cons_succ]
                  refine pre_nil ?_
                  refine sinkw_vee (i := 0) (j := 6) (by kernel_rfl) ?_ ?_
                  focus
                    refine wpOp_step rfl (fun K' hK => ?_)
                    have HK := Lib.hid hK
                    clear hK
                    rw [if_pos (by rfl)]
                    go_simp
                    have C0 : Hid (Cs w14 ((w14.alloc (.cells #[] 3 (0, 0))).drew) (.slice (some ⟨w14.heap.size, 0, none⟩) 0 0) []) := cs_nil ((Below.refl _ w14).drew)
                    generalize (w14.alloc _).drew = x0 at *
                    refine HK.out _ _ ⟨Or.inr C0.out.bw, ?_⟩
                    clear HK
                    try change SinkW _ _ _ _ _ _ _ _ (Act.put _ (some 139) _) _
                    try simp only [Act.put, List.setIfInBounds_toArray, List.set_cons_zero, List.set_cons_succ]
                    refine sinkw_vee (i := 4) (j := 6) (by kernel_rfl) ?_ ?_
                    focus
                      refine wpOp_step rfl (fun K' hK => ?_)
                      have HK := Lib.hid hK
                      clear hK
                      rw [if_pos (by rfl)]
                      refine wp_cs C0.out (.tmp 139) (.tmp 142) rfl rfl _ (rst.take t) rfl (NT.out _ C0.out.bw) (by simp; try omega) (by simp; try omega) (fun v4 x4 h4 n4 => ?_)
                      have C4 := Lib.hid h4
                      clear h4 n4
                      refine HK.out _ _ ⟨Or.inr C4.out.bw, ?_⟩
                      clear HK
                      try change SinkW _ _ _ _ _ _ _ _ (Act.put _ (some 143) _) _
                      try simp only [Act.put, List.setIfInBounds_toArray, List.set_cons_zero, List.set_cons_succ]
                      refine sinkw_one (i := 6) (by kernel_rfl) ?_
                      refine wpOp_step rfl (fun K' hK => ?_)
                      have HK := Lib.hid hK
                      clear hK
                      rw [if_pos (by rfl)]
                      go_simp
                      have C6 := Lib.hid (C4.out.alloc (.cells #[.int .i64 (cc : Int)] 3 (0, 0)))
                      have N6 := Lib.hid (C4.out.on cc)
                      generalize x4.alloc _ = x6 at *
                      refine HK.out _ _ ⟨Or.inr C6.out.bw, ?_⟩
                      clear HK
                      try change SinkW _ _ _ _ _ _ _ _ (Act.put _ (some 145) _) _
                      try simp only [Act.put, List.setIfInBounds_toArray, List.set_cons_zero, List.set_cons_succ]
                      refine sinkw_one (i := 7) (by kernel_rfl) ?_
                      refine wpOp_step rfl (fun K' hK => ?_)
                      have HK := Lib.hid hK
                      clear hK
                      rw [if_pos (by rfl)]
                      refine wp_cs C6.out (.tmp 143) (.tmp 145) rfl rfl _ [cc] rfl (N6.out.2.2) (by simp; try omega) (by simp; try omega) (fun v7 x7 h7 n7 => ?_)
                      have C7 := Lib.hid h7
                      clear h7 n7
                      refine HK.out _ _ ⟨Or.inr C7.out.bw, ?_⟩
                      clear HK
                      try change SinkW _ _ _ _ _ _ _ _ (Act.put _ (some 146) _) _
                      try simp only [Act.put, List.setIfInBounds_toArray, List.set_cons_zero, List.set_cons_succ]
                      refine sinkw_one (i := 11) (by kernel_rfl) ?_
                      refine wpOp_step rfl (fun K' hK => ?_)
                      have HK := Lib.hid hK
                      clear hK
                      rw [if_pos (by rfl)]
                      refine wp_cs C7.out (.tmp 146) (.tmp 149) rfl rfl _ (rst.drop t) rfl (ND.out _ C7.out.bw) (by simp; try omega) (by simp; try omega) (fun v11 x11 h11 n11 => ?_)
                      have C11 := Lib.hid h11
                      clear h11 n11
                      have CE : Hid (Cs w14 x11 v11 (insL rst t cc)) := by have h := C11.out; rw [insL_cat] at h; exact h
                      clear C11
                      obtain ⟨AF, cF, rfl⟩ := owns_shape CE.out.ow
                      refine HK.out _ _ ⟨Or.inr CE.out.bw, ?_⟩
                      clear HK
                      try change SinkW _ _ _ _ _ _ _ _ (Act.put _ (some 150) _) _
                      try simp only [Act.put, List.setIfInBounds_toArray, List.set_cons_zero, List.set_cons_succ]
                      refine sinkw_one (i := 12) (by kernel_rfl) ?_
                      refine wpOp_step rfl (fun K' hK => ?_)
                      have HK := Lib.hid hK
                      clear hK
                      rw [if_pos (by rfl)]
                      go_simp
                      refine HK.out _ _ ⟨Or.inl rfl, ?_⟩
                      clear HK
                      try change SinkW _ _ _ _ _ _ _ _ (Act.put _ (some 10) _) _
                      try simp only [Act.put, List.setIfInBounds_toArray, List.set_cons_zero, List.set_cons_succ]
                      refine sinkw_done (by kernel_rfl) ?_
                      clear NT ND
                      generalize @ite (Option Addr) (cE = t) _ _ _ = AQ2
                      go_wp2_with fail
                      go_meet
                      exact ⟨AF, cF, by rw [hL.out], by have h := RW.out.cs CE.out; rw [hL.out] at h; exact h⟩
                    focus
                      refine wpOp_step rfl (fun K' hK => ?_)
                      have HK := Lib.hid hK
                      clear hK
                      rw [if_pos (by rfl)]
                      go_simp
                      have C6 := Lib.hid (C0.out.alloc (.cells #[.int .i64 (cc : Int)] 3 (0, 0)))
                      have N6 := Lib.hid (C0.out.on cc)
                      generalize x0.alloc _ = x6 at *
                      refine HK.out _ _ ⟨Or.inr C6.out.bw, ?_⟩
                      clear HK
                      try change SinkW _ _ _ _ _ _ _ _ (Act.put _ (some 145) _) _
                      try simp only [Act.put, List.setIfInBounds_toArray, List.set_cons_zero, List.set_cons_succ]
                      refine sinkw_one (i := 4) (by kernel_rfl) ?_
                      refine wpOp_step rfl (fun K' hK => ?_)
                      have HK := Lib.hid hK
                      clear hK
                      rw [if_pos (by rfl)]
                      refine wp_cs C6.out (.tmp 139) (.tmp 142) rfl rfl _ (rst.take t) rfl (NT.out _ C6.out.bw) (by simp; try omega) (by simp; try omega) (fun v4 x4 h4 n4 => ?_)
                      have C4 := Lib.hid h4
                      have N4 := Lib.hid (n4 _ _ N6.out)
                      clear h4 n4
                      refine HK.out _ _ ⟨Or.inr C4.out.bw, ?_⟩
                      clear HK
                      try change SinkW _ _ _ _ _ _ _ _ (Act.put _ (some 143) _) _
                      try simp only [Act.put, List.setIfInBounds_toArray, List.set_cons_zero, List.set_cons_succ]
                      refine sinkw_one (i := 7) (by kernel_rfl) ?_
                      refine wpOp_step rfl (fun K' hK => ?_)
                      have HK := Lib.hid hK
                      clear hK
                      rw [if_pos (by rfl)]
                      refine wp_cs C4.out (.tmp 143) (.tmp 145) rfl rfl _ [cc] rfl (N4.out.2.2) (by simp; try omega) (by simp; try omega) (fun v7 x7 h7 n7 => ?_)
                      have C7 := Lib.hid h7
                      clear h7 n7
                      refine HK.out _ _ ⟨Or.inr C7.out.bw, ?_⟩
                      clear HK
                      try change SinkW _ _ _ _ _ _ _ _ (Act.put _ (some 146) _) _
                      try simp only [Act.put, List.setIfInBounds_toArray, List.set_cons_zero, List.set_cons_succ]
                      refine sinkw_one (i := 11) (by kernel_rfl) ?_
                      refine wpOp_step rfl (fun K' hK => ?_)
                      have HK := Lib.hid hK
                      clear hK
                      rw [if_pos (by rfl)]
                      refine wp_cs C7.out (.tmp 146) (.tmp 149) rfl rfl _ (rst.drop t) rfl (ND.out _ C7.out.bw) (by simp; try omega) (by simp; try omega) (fun v11 x11 h11 n11 => ?_)
                      have C11 := Lib.hid h11
                      clear h11 n11
                      have CE : Hid (Cs w14 x11 v11 (insL rst t cc)) := by have h := C11.out; rw [insL_cat] at h; exact h
                      clear C11
                      obtain ⟨AF, cF, rfl⟩ := owns_shape CE.out.ow
                      refine HK.out _ _ ⟨Or.inr CE.out.bw, ?_⟩
                      clear HK
                      try change SinkW _ _ _ _ _ _ _ _ (Act.put _ (some 150) _) _
                      try simp only [Act.put, List.setIfInBounds_toArray, List.set_cons_zero, List.set_cons_succ]
                      refine sinkw_one (i := 12) (by kernel_rfl) ?_
                      refine wpOp_step rfl (fun K' hK => ?_)
                      have HK := Lib.hid hK
                      clear hK
                      rw [if_pos (by rfl)]
                      go_simp
                      refine HK.out _ _ ⟨Or.inl rfl, ?_⟩
                      clear HK
                      try change SinkW _ _ _ _ _ _ _ _ (Act.put _ (some 10) _) _
                      try simp only [Act.put, List.setIfInBounds_toArray, List.set_cons_zero, List.set_cons_succ]
                      refine sinkw_done (by kernel_rfl) ?_
                      clear NT ND
                      generalize @ite (Option Addr) (cE = t) _ _ _ = AQ2
                      go_wp2_with fail
                      go_meet
                      exact ⟨AF, cF, by rw [hL.out], by have h := RW.out.cs CE.out; rw [hL.out] at h; exact h⟩
                  focus
                    refine wpOp_step rfl (fun K' hK => ?_)
                    have HK := Lib.hid hK
                    clear hK
                    rw [if_pos (by rfl)]
                    go_simp
                    have B6 : Hid (Below w14.heap.size w14 ((w14.alloc (.cells #[.int .i64 (cc : Int)] 3 (0, 0))).drew)) := ((Below.refl _ w14).alloc (Nat.le_refl _) _).drew
                    have N6 : Hid (Ni ((w14.alloc (.cells #[.int .i64 (cc : Int)] 3 (0, 0))).drew) (.slice (some ⟨w14.heap.size, 0, none⟩) 1 1) [cc]) := ni_one (blk_new w14 _)
                    have NB : Hid (w14.heap.size < ((w14.alloc (.cells #[.int .i64 (cc : Int)] 3 (0, 0))).drew).heap.size) := by show _ < (World.alloc _ _).heap.size; simp
                    generalize (w14.alloc _).drew = x6 at *
                    refine HK.out _ _ ⟨Or.inr B6.out, ?_⟩
                    clear HK
                    try change SinkW _ _ _ _ _ _ _ _ (Act.put _ (some 145) _) _
                    try simp only [Act.put, List.setIfInBounds_toArray, List.set_cons_zero, List.set_cons_succ]
                    refine sinkw_one (i := 0) (by kernel_rfl) ?_
                    refine wpOp_step rfl (fun K' hK => ?_)
                    have HK := Lib.hid hK
                    clear hK
                    rw [if_pos (by rfl)]
                    go_simp
                    have C0 : Hid (Cs w14 (x6.alloc (.cells #[] 3 (0, 0))) (.slice (some ⟨x6.heap.size, 0, none⟩) 0 0) []) := cs_nil B6.out
                    have N0 := Lib.hid (on_nil NB.out N6.out (.cells #[] 3 (0, 0)))
                    generalize x6.alloc _ = x0 at *
                    refine HK.out _ _ ⟨Or.inr C0.out.bw, ?_⟩
                    clear HK
                    try change SinkW _ _ _ _ _ _ _ _ (Act.put _ (some 139) _) _
                    try simp only [Act.put, List.setIfInBounds_toArray, List.set_cons_zero, List.set_cons_succ]
                    refine sinkw_one (i := 4) (by kernel_rfl) ?_
                    refine wpOp_step rfl (fun K' hK => ?_)
                    have HK := Lib.hid hK
                    clear hK
                    rw [if_pos (by rfl)]
                    refine wp_cs C0.out (.tmp 139) (.tmp 142) rfl rfl _ (rst.take t) rfl (NT.out _ C0.out.bw) (by simp; try omega) (by simp; try omega) (fun v4 x4 h4 n4 => ?_)
                    have C4 := Lib.hid h4
                    have N4 := Lib.hid (n4 _ _ N0.out)
                    clear h4 n4
                    refine HK.out _ _ ⟨Or.inr C4.out.bw, ?_⟩
                    clear HK
                    try change SinkW _ _ _ _ _ _ _ _ (Act.put _ (some 143) _) _
                    try simp only [Act.put, List.setIfInBounds_toArray, List.set_cons_zero, List.set_cons_succ]
                    refine sinkw_one (i := 7) (by kernel_rfl) ?_
                    refine wpOp_step rfl (fun K' hK => ?_)
                    have HK := Lib.hid hK
                    clear hK
                    rw [if_pos (by rfl)]
                    refine wp_cs C4.out (.tmp 143) (.tmp 145) rfl rfl _ [cc] rfl (N4.out.2.2) (by simp; try omega) (by simp; try omega) (fun v7 x7 h7 n7 => ?_)
                    have C7 := Lib.hid h7
                    clear h7 n7
                    refine HK.out _ _ ⟨Or.inr C7.out.bw, ?_⟩
                    clear HK
                    try change SinkW _ _ _ _ _ _ _ _ (Act.put _ (some 146) _) _
                    try simp only [Act.put, List.setIfInBounds_toArray, List.set_cons_zero, List.set_cons_succ]
                    refine sinkw_one (i := 11) (by kernel_rfl) ?_
                    refine wpOp_step rfl (fun K' hK => ?_)
                    have HK := Lib.hid hK
                    clear hK
                    rw [if_pos (by rfl)]
                    refine wp_cs C7.out (.tmp 146) (.tmp 149) rfl rfl _ (rst.drop t) rfl (ND.out _ C7.out.bw) (by simp; try omega) (by simp; try omega) (fun v11 x11 h11 n11 => ?_)
                    have C11 := Lib.hid h11
                    clear h11 n11
                    have CE : Hid (Cs w14 x11 v11 (insL rst t cc)) := by have h := C11.out; rw [insL_cat] at h; exact h
                    clear C11
                    obtain ⟨AF, cF, rfl⟩ := owns_shape CE.out.ow
                    refine HK.out _ _ ⟨Or.inr CE.out.bw, ?_⟩
                    clear HK
                    try change SinkW _ _ _ _ _ _ _ _ (Act.put _ (some 150) _) _
                    try simp only [Act.put, List.setIfInBounds_toArray, List.set_cons_zero, List.set_cons_succ]
                    refine sinkw_one (i := 12) (by kernel_rfl) ?_
                    refine wpOp_step rfl (fun K' hK => ?_)
                    have HK := Lib.hid hK
                    clear hK
                    rw [if_pos (by rfl)]
                    go_simp
                    refine HK.out _ _ ⟨Or.inl rfl, ?_⟩
                    clear HK
                    try change SinkW _ _ _ _ _ _ _ _ (Act.put _ (some 10) _) _
                    try simp only [Act.put, List.setIfInBounds_toArray, List.set_cons_zero, List.set_cons_succ]
                    refine sinkw_done (by kernel_rfl) ?_
                    clear NT ND
                    generalize @ite (Option Addr) (cE = t) _ _ _ = AQ2
                    go_wp2_with fail
                    go_meet
                    exact ⟨AF, cF, by rw [hL.out], by have h := RW.out.cs CE.out; rw [hL.out] at h; exact h⟩
                case rest =>
                  obtain ⟨A2, c2', rfl, S4⟩ := hcut
                  clear NT ND RW htc htq hcq hrl9
                  generalize insL rst t cc = row3 at *
                  obtain ⟨ro8, M8, O8, Z8⟩ := S4.out
                  have hk : (ndI s3 2).kids = row3 := MV3.out.k2
                  have hmem : cc ∈ row3 := HC.out
                  have hpar : (ndI s3 (cc : Int)).par = 2 := by rw [show ndI s3 (cc : Int) = s3.nd cc from by unfold ndI; rw [if_neg (by omega), Int.toNat_natCast]]; exact (MV3.out.mem hmem).1
                  have hlen : row3.length ≤ 8 := by rw [hL.out]; exact hr8
                  have hpar := Lib.hid hpar
                  clear hmem
                  go_upto_region 27 with fail
                  go_wp2_with fail
                  refine (kids29 2 wc M8.1 MV3.out.inv (by rw [hk]; omega)).mono ?_
                  rintro e w15 ⟨v15, rfl, h15, hb15⟩
                  rw [hk] at h15
                  have S5 := Lib.hid (S4.out.call hb15)
                  have N15 := owns_ni h15
                  clear h15 hb15 M8 O8 Z8 S4 hk
                  go_wp2_with fail
                  refine (sameI32 v15 _ row3 row3 w15 N15 S5.out.ni (by omega) (by omega)).mono ?_
                  rintro e w16 ⟨rfl, q16, rfl⟩
                  rw [decide_eq_true rfl]
                  have hbq : Below w15.heap.size w15 (w15.drewN q16) := ⟨rfl, rfl, rfl, Nat.le_refl _, fun _ _ => rfl⟩
                  have S6 := Lib.hid (S5.out.call hbq)
                  clear hbq
                  generalize w15.drewN q16 = w16 at *
                  obtain ⟨ro9, M9, O9, Z9⟩ := S6.out
                  clear S5 N15 hlen
                  go_wp2_with fail
                  refine (parent30 cc w16 M9.1 MV3.out.inv).mono ?_
                  rintro e w17 ⟨rfl, hb17⟩
                  rw [hpar.out]
                  have S7 := Lib.hid (S6.out.call hb17)
                  clear M9 O9 Z9 S6 hb17
                  go_wp2_with fail
                  go_roundw
                  case rel => exact ⟨j + 1, s3, row3, A2, c2', by omega, by go_num, rfl, hL, MV3.out, S7.out⟩
                  case measure => simp [intOf]; omega
              · have d3 : ¬ (0 : Int) < (n : Int) := by omega
                go_wp2_with fail
                go_meet
                exact ⟨s, row, A, c, rfl, hn, MV.out, S1.out⟩
            · have d2 : ¬ (j : Int) < 12 := by omega
              go_wp2_with fail
              go_meet
              exact ⟨s, row, A, c, rfl, hn, MV.out, S1.out⟩
          · have d1 : ¬ (j : Int) < (m2 : Int) := by omega
            go_wp2_with fail
            go_meet
            exact ⟨s, row, A, c, rfl, hn, MV.out, S1.out⟩
        · have d0 : ¬ (j : Int) < (m1 : Int) := by omega
          go_wp2_with fail
          go_meet
          exact ⟨s, row, A, c, rfl, hn, MV.out, S1.out⟩
    case rest =>
      clear S2 MV hn
      clear row
      obtain ⟨s, row, A, c, rfl, hn, MV, S1⟩ := hcut
      have hcc : n ≤ c := by have := ni_cap S1.out.ni; rw [hn.out] at this; exact this
      go_upto_region 29 with fail
      go_wp2_with fail
      go_loopw [166] (fun p166 wr => ∃ (i : Nat) (s : St), i ≤ n ∧ p166 = .int .i64 i ∧ Hid (Mv s (row.drop i) (row.take i).reverse) ∧ Hid (Sto w D s row (.slice A n c) wr)) (fun p _ => n - (intOf p).toNat)
      case atStart => exact ⟨0, s, Nat.zero_le _, rfl, MV.out, S1.out⟩
      case round =>
        clear MV S1
        clear s
        obtain ⟨i, s, hi, rfl, MV, S1⟩ := hrel
        by_cases hin : i < n
        · have d0 : (i : Int) < (n : Int) := by omega
          have hrl : i < row.length := by rw [hn.out]; exact hin
          have hcr : ∃ b o, A = some ⟨b, o, none⟩ ∧ wr.cell? ⟨b, o + i, none⟩ = some (.int .i64 (row.getD i 0 : Nat)) := by
            obtain ⟨A', c', e, _, _, h4⟩ := S1.out.ni
            cases e
            exact h4 i hrl
          have hdr : row.drop i = row.getD i 0 :: row.drop (i + 1) := by
            rw [List.drop_eq_getElem_cons hrl]
            simp [List.getD, hrl]
          have htk : row.getD i 0 :: (row.take i).reverse = (row.take (i + 1)).reverse := by
            have h1 : row.take (i + 1) = row.take i ++ [row.getD i 0] := by
              rw [List.take_add_one]
              simp [List.getD, hrl]
            rw [h1, List.reverse_append]
            rfl
          obtain ⟨rb, ro_, rfl, hcx⟩ := hcr
          generalize row.getD i 0 = cc at *
          have MV1 := MV.out
          rw [hdr] at MV1
          have V0 := Lib.hid MV.out.inv
          have HM := Lib.hid (mv_may MV1 (Or.inr rfl) (by simp : cc ∈ cc :: row.drop (i + 1)))
          have W2 := mv_over MV1
          rw [htk] at W2
          replace W2 := Lib.hid W2
          have htp : s.top ≤ 100 := by have := MV1.top; have h2 := hn.out; simp at this; omega
          have hl2 : (row.drop (i + 1)).length = n - (i + 1) := by rw [List.length_drop, hn.out]
          have hl3 : ((row.take (i + 1)).reverse).length = i + 1 := by rw [List.length_reverse, List.length_take, hn.out]; omega
          clear MV1 MV hrl hdr htk
          go_upto_region 32 with fail
          clear hcx
          obtain ⟨ro7, M7, O7, Z7⟩ := S1.out
          go_wp2_with fail
          refine (insert10_yes 3 cc (-5) wr M7.1 V0.out HM.out (by omega)).mono ?_
          rintro e w14 ⟨rfl, TU⟩
          have RW := Lib.hid (sto_turn M7 O7 Z7 TU)
          clear TU M7 O7 Z7 HM V0 S1 htp
          generalize s.insert 3 cc (-5) = s3 at *
          have hk2 : (ndI s3 2).kids.length = n - (i + 1) := by rw [show (ndI s3 2).kids = row.drop (i + 1) from W2.out.k2, hl2]
          have hk3 : (ndI s3 3).kids.length = i + 1 := by rw [show (ndI s3 3).kids = (row.take (i + 1)).reverse from W2.out.k3, hl3]
          replace hk2 := Lib.hid hk2
          replace hk3 := Lib.hid hk3
          clear hl2 hl3
          obtain ⟨ro8, M8, O8, Z8⟩ := RW.out
          go_wp2_with fail
          refine (kids29 2 w14 M8.1 W2.out.inv (by rw [hk2.out]; omega)).mono ?_
          rintro e w15 ⟨v15, rfl, h15, hb15⟩
          obtain ⟨A15, c15, rfl⟩ := owns_shape h15
          rw [hk2.out]
          have S5 := Lib.hid (RW.out.call hb15)
          clear h15 hb15 M8 O8 Z8 RW
          generalize hk : n - (i + 1) = k2 at *
          have e2 : (k2 : Int) = (n : Int) - 1 - (i : Int) := by omega
          clear hk
          obtain ⟨ro8, M8, O8, Z8⟩ := S5.out
          go_wp2_with fail
          refine (kids29 3 w15 M8.1 W2.out.inv (by rw [hk3.out]; omega)).mono ?_
          rintro e w16 ⟨v16, rfl, h16, hb16⟩
          obtain ⟨A16, c16, rfl⟩ := owns_shape h16
          rw [hk3.out]
          have S6 := Lib.hid (S5.out.call hb16)
          clear h16 hb16 M8 O8 Z8 S5
          go_wp2_with fail
          go_roundw
          case rel => exact ⟨i + 1, s3, by omega, by go_num, W2.out, S6.out⟩
          case measure => simp [intOf]; omega
        · have hie : i = n := by omega
          subst hie
          have d0 : ¬ (i : Int) < (i : Int) := by omega
          have MF : Hid (Mv s [] row.reverse) := by
            have h := MV.out
            rw [← hn.out, List.drop_length, List.take_length] at h
            exact h
          have hst : Hid (s.top = 3 + i ∧ s.freed = []) := ⟨by have := MF.out.top; have h2 := hn.out; simp at this; omega, MF.out.fr⟩
          have hle : Hid (s.loose = []) := MF.out.loose
          obtain ⟨ro8, M8, O8, Z8⟩ := S1.out
          clear MV
          go_upto_region 35 with fail
          go_wp2_with fail
          refine (count16 wr M8.1 (by have := hst.out.1; omega) (by rw [hst.out.2]; exact Nat.zero_le _)).mono ?_
          rintro e w15 ⟨rfl, hb15⟩
          have S5 := Lib.hid (S1.out.call hb15)
          rw [hst.out.1, hst.out.2]
          clear hb15 M8 O8 Z8 S1
          have K1 : Hid ((ndI s 1).kids = [2, 3]) := MF.out.k1
          obtain ⟨ro8, M8, O8, Z8⟩ := S5.out
          go_wp2_with fail
          refine (kids29 1 w15 M8.1 MF.out.inv (by rw [K1.out]; decide)).mono ?_
          rintro e w16 ⟨v16, rfl, h16, hb16⟩
          rw [K1.out] at h16
          have S6 := Lib.hid (S5.out.call hb16)
          have N16 := Lib.hid ((owns_ni h16).call ((Below.refl _ w16).alloc (Nat.le_refl _) (.cells #[.int .i64 2, .int .i64 3] 3 (0, 0))))
          have X16 := Lib.hid (S6.out.call ((Below.refl _ w16).alloc (Nat.le_refl _) (.cells #[.int .i64 2, .int .i64 3] 3 (0, 0))))
          have L16 : Hid (Ni (w16.alloc (.cells #[.int .i64 2, .int .i64 3] 3 (0, 0))) (.slice (some ⟨w16.heap.size, 0, none⟩) 2 2) [2, 3]) := by
            refine ⟨some ⟨w16.heap.size, 0, none⟩, 2, rfl, Nat.le_refl _, (fun e => by cases e), fun k hk => ⟨w16.heap.size, 0, rfl, ?_⟩⟩
            rw [blk_cell (blk_new w16 _)]
            have : k = 0 ∨ k = 1 := by simp at hk; omega
            rcases this with rfl | rfl <;> rfl
          clear h16 hb16 M8 O8 Z8 S5 S6 K1
          go_wp2_with fail
          generalize w16.alloc _ = w17 at *
          refine (sameI32 v16 _ [2, 3] [2, 3] w17 N16.out L16.out (by decide) (by decide)).mono ?_
          rintro e w18 ⟨rfl, q16, rfl⟩
          rw [decide_eq_true rfl]
          have hbq : Below w17.heap.size w17 (w17.drewN q16) := ⟨rfl, rfl, rfl, Nat.le_refl _, fun _ _ => rfl⟩
          have S7 := Lib.hid (X16.out.call hbq)
          clear hbq N16 L16 X16
          generalize w17.drewN q16 = w18 at *
          obtain ⟨ro8, M8, O8, Z8⟩ := S7.out
          go_wp2_with fail
          refine (loose28 w18 M8.1 MF.out.inv (by have := hst.out.1; omega)).mono ?_
          rintro e w19 ⟨v19, rfl, h19, hb19⟩
          obtain ⟨A19, c19, rfl⟩ := owns_shape h19
          rw [hle.out]
          have S8 := Lib.hid (S7.out.call hb19)
          clear h19 hb19 M8 O8 Z8 S7
          go_wp2_with fail
          refine (runs3 w19).mono ?_
          rintro e w20 ⟨rfl, hb20⟩
          have BE := Lib.hid (S8.out.bw.trans (hb20.mono S8.out.bw.size))
          clear hb20
          go_wp2
          go_ret
          exact ⟨rfl, BE.out⟩
end Go.Proofs.Ytdbnhpghemlkbaa
