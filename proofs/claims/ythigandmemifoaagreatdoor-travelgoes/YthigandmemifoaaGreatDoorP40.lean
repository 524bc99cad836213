/-
  Put together: TvS, TvQ, UEqual.
-/
import Derived.Test.YthigandmemifoaaGreatDoorP39
import Derived.Test.YthigandmemifoaaGreatDoorP38
import Derived.Test.YthigandmemifoaaGreatDoorP14
namespace Go.Proofs.YthigandmemifoaaGreatDoor
open Go.RowKit Go.PlainAid
set_option maxRecDepth 100000

theorem fit1 (u : Value) : Fit (tr1 u) := ⟨by simp [tr1], fun r hr => by simp only [tr1, List.mem_cons, List.not_mem_nil, or_false] at hr; rcases hr with rfl | rfl <;> simp⟩
theorem fit2 (u : Value) : Fit (tr2 u) := ⟨by simp [tr2], fun r hr => by simp only [tr2, List.mem_cons, List.not_mem_nil, or_false] at hr; rcases hr with rfl | rfl <;> simp⟩
theorem bs_none (w : World) (g : Nat → Bool) : Bs w (.slice none 0 0) 0 g := ⟨none, 0, rfl, by simp, fun _ => rfl, fun i hi => by omega⟩
theorem run_go1 {W : World} {v u : Value} (h : Rs W v (tr1 u)) : Calls Tryz.prog 7 #[v, .string ⟨#[47]⟩, .slice none 0 0] W fun e w' => ∃ v1 v2 v3 A c, e = .returned (.tuple #[.agg #[v1, v2, .int .i64 1, v3, .slice A 0 c, .int .i64 1], .int .i64 0]) ∧ Ss w' v1 [shT] ∧ Ps w' v2 [] ∧ Nt w' v3 [1] ∧ Below W.heap.size W w' := by
  refine (go7 v (tr1 u) ⟨#[47]⟩ (.slice none 0 0) 0 (fun _ => false) W h (fit1 u) (by decide) (bs_none _ _)).mono ?_
  rintro e w' ⟨v1, v2, v3, v4, rfl, hp, hb⟩
  rw [tr1_go] at hp ⊢
  obtain ⟨A, c, e4, -⟩ := hp.2.2.2
  subst e4
  exact ⟨v1, v2, v3, A, _, rfl, hp.1, hp.2.1, hp.2.2.1, hb⟩
theorem run_go2 {W : World} {v u : Value} (h : Rs W v (tr2 u)) : Calls Tryz.prog 7 #[v, .string ⟨#[47]⟩, .slice none 0 0] W fun e w' => ∃ v1 v2 v3 v4, e = .returned (.tuple #[.agg #[v1, v2, .int .i64 0, v3, v4, .int .i64 0], .int .i64 4]) ∧ PlOk w' v1 v2 v3 v4 zPl ∧ Below W.heap.size W w' := by
  refine (go7 v (tr2 u) ⟨#[47]⟩ (.slice none 0 0) 0 (fun _ => false) W h (fit2 u) (by decide) (bs_none _ _)).mono ?_
  rintro e w' ⟨v1, v2, v3, v4, rfl, hp, hb⟩
  rw [tr2_go] at hp ⊢
  exact ⟨v1, v2, v3, v4, rfl, hp, hb⟩

theorem run_key0 {W : World} {v u : Value} {A1 A2 A3 A4 : Option Addr} {n1 n2 n3 c1 c2 c3 c4 : Nat} (h : Rs W v (tr1 u)) (hc : Ni W (.slice A3 n3 c3) [1]) : Calls Tryz.prog 9 #[v, .agg #[.slice A1 n1 c1, .slice A2 n2 c2, .int .i64 1, .slice A3 n3 c3, .slice A4 0 c4, .int .i64 1], .int .i64 0] W fun e w' => e = .returned (.string ⟨#[47, 115, 104, 111, 112]⟩) ∧ Below W.heap.size W w' := by
  refine (key9 v (tr1 u) _ _ _ 1 1 [1] 0 W A1 A2 n1 n2 c1 c2 rfl rfl h hc (by simp) (by simp [tr1]) A4 c4 (show (4 : Nat) ≤ 1000 by omega)).mono ?_
  rintro e w' ⟨he, hb⟩
  exact ⟨he.trans (congrArg (fun x => Ending.returned (.string x)) tr_key), hb⟩
theorem run_key1 {W : World} {v u : Value} {A1 A2 A3 A4 : Option Addr} {n1 n2 n3 c1 c2 c3 c4 : Nat} (h : Rs W v (tr1 u)) (hc : Ni W (.slice A3 n3 c3) [1]) : Calls Tryz.prog 9 #[v, .agg #[.slice A1 n1 c1, .slice A2 n2 c2, .int .i64 1, .slice A3 n3 c3, .slice A4 0 c4, .int .i64 1], .int .i64 1] W fun e w' => e = .returned (.string ⟨#[]⟩) ∧ Below W.heap.size W w' := by
  obtain ⟨A, c, e, -⟩ := hc
  cases e
  exact key9_no v (tr1 u) W A1 A2 A3 A4 n1 n2 _ 0 c1 c2 c3 c4 1 1 1 (by simp) h
set_option maxHeartbeats 12800000 in
theorem travelRuns_any (w : World) : Calls Tryz.prog 3 #[] w fun e w' => e = .returned (.bool true) ∧ Below w.heap.size w w' := by
  have B0 := Lib.hid (((Below.refl w.heap.size w).alloc (Nat.le_refl _) (.cells #[.int .i64 0, .string ⟨#[115, 104, 111, 112]⟩] 28 (0, 0))).alloc (by simp) (.cells #[.string ⟨#[104, 111, 109, 101]⟩, .int .i64 (-1), .slice none 0 0, .int .i64 0, .bool false, .int .i64 3, .int .i64 0, .string ⟨#[115, 104, 111, 112]⟩, .string ⟨#[115, 104, 111, 112]⟩, .int .i64 (-1), .slice (some ⟨w.heap.size, 0, none⟩) 1 1, .int .i64 0, .bool false, .int .i64 0, .int .i64 0, .string ⟨#[]⟩] 26 (0, 0)))
  have X1 := Lib.hid (blk_alloc (blk_new w (.cells #[.int .i64 0, .string ⟨#[115, 104, 111, 112]⟩] 28 (0, 0))) (.cells #[.string ⟨#[104, 111, 109, 101]⟩, .int .i64 (-1), .slice none 0 0, .int .i64 0, .bool false, .int .i64 3, .int .i64 0, .string ⟨#[115, 104, 111, 112]⟩, .string ⟨#[115, 104, 111, 112]⟩, .int .i64 (-1), .slice (some ⟨w.heap.size, 0, none⟩) 1 1, .int .i64 0, .bool false, .int .i64 0, .int .i64 0, .string ⟨#[]⟩] 26 (0, 0)))
  have X2 : Hid (((w.alloc (.cells #[.int .i64 0, .string ⟨#[115, 104, 111, 112]⟩] 28 (0, 0))).alloc (.cells #[.string ⟨#[104, 111, 109, 101]⟩, .int .i64 (-1), .slice none 0 0, .int .i64 0, .bool false, .int .i64 3, .int .i64 0, .string ⟨#[115, 104, 111, 112]⟩, .string ⟨#[115, 104, 111, 112]⟩, .int .i64 (-1), .slice (some ⟨w.heap.size, 0, none⟩) 1 1, .int .i64 0, .bool false, .int .i64 0, .int .i64 0, .string ⟨#[]⟩] 26 (0, 0))).heap[w.heap.size + 1]? = some (.cells ((tr1 (.slice (some ⟨w.heap.size, 0, none⟩) 1 1)).flatMap rcC).toArray 26 (0, 0))) := blk_new1 w _ _
  go_enter Tryz.func3, Tryz.ntmps3
  go_upto_region 2 with fail
  generalize (w.alloc (.cells #[.int .i64 0, .string ⟨#[115, 104, 111, 112]⟩] 28 (0, 0))).alloc (.cells #[.string ⟨#[104, 111, 109, 101]⟩, .int .i64 (-1), .slice none 0 0, .int .i64 0, .bool false, .int .i64 3, .int .i64 0, .string ⟨#[115, 104, 111, 112]⟩, .string ⟨#[115, 104, 111, 112]⟩, .int .i64 (-1), .slice (some ⟨w.heap.size, 0, none⟩) 1 1, .int .i64 0, .bool false, .int .i64 0, .int .i64 0, .string ⟨#[]⟩] 26 (0, 0)) = w2 at *
  have R2 : Hid (Rs w2 (.slice (some ⟨w.heap.size + 1, 0, none⟩) 2 2) (tr1 (.slice (some ⟨w.heap.size, 0, none⟩) 1 1))) := rs_new X2.out rfl (fun r hr => by
    simp only [tr1, List.mem_cons, List.not_mem_nil, or_false] at hr
    rcases hr with rfl | rfl
    · exact gs_nil _
    · exact gs_one X1.out)
  have T1 : Hid (∀ r ∈ tr1 (.slice (some ⟨w.heap.size, 0, none⟩) 1 1), Gt w2 r.u r.l) := fun r hr => by
    simp only [tr1, List.mem_cons, List.not_mem_nil, or_false] at hr
    rcases hr with rfl | rfl
    · exact gt_nil _
    · exact gt_one X1.out
  go_upto_region 3 with (first | (go_at_call 7; refine (run_go1 R2.out).mono ?_; rintro e w3 ⟨v1, v2, v3, A4, c4, rfl, h1, h2, h3, hb3⟩; have H1 := Lib.hid h1; have H2 := Lib.hid h2; have H3 := Lib.hid h3; have B3 := Lib.hid hb3; obtain ⟨a1, m1, b1, e1⟩ := h1.shape; obtain ⟨a2, m2, b2, e2⟩ := h2.shape; obtain ⟨a3, m3, b3, e3⟩ := h3.shape; subst e1 e2 e3; clear h1 h2 h3 hb3))
  have D4 := Lib.hid ((Below.refl w3.heap.size w3).alloc (Nat.le_refl _) (.cells #[.slice a1 m1 b1, .slice a2 m2 b2, .int .i64 1, .slice a3 m3 b3, .slice A4 0 c4, .int .i64 1] 36 (0, 0)))
  have X3 := Lib.hid (blk_new w3 (.cells #[.slice a1 m1 b1, .slice a2 m2 b2, .int .i64 1, .slice a3 m3 b3, .slice A4 0 c4, .int .i64 1] 36 (0, 0)))
  generalize w3.alloc (.cells #[.slice a1 m1 b1, .slice a2 m2 b2, .int .i64 1, .slice a3 m3 b3, .slice A4 0 c4, .int .i64 1] 36 (0, 0)) = w4 at *
  have D24 := Lib.hid (B3.out.trans (D4.out.mono B3.out.size))
  have T4 : Hid (∀ r ∈ tr1 (.slice (some ⟨w.heap.size, 0, none⟩) 1 1), Gt w4 r.u r.l) := fun r hr => (T1.out r hr).call D24.out
  have D45 := Lib.hid ((Below.refl w4.heap.size w4).alloc (Nat.le_refl _) (.cells #[] 26 (0, 0)))
  have T5 : Hid (∀ r ∈ tr1 (.slice (some ⟨w.heap.size, 0, none⟩) 1 1), Gt (w4.alloc (.cells #[] 26 (0, 0))) r.u r.l) := fun r hr => (T4.out r hr).call D45.out
  have X5 := Lib.hid (blk_call X2.out (D24.out.trans (D45.out.mono D24.out.size)))
  have O5 := Lib.hid (empR w4.heap.size w4 w4 (Below.refl _ _) (Nat.le_refl _))
  go_upto_region 4 with (first | (at_builtin; refine wpList_appR rfl (.tmp 18) (.tmp 19) rfl rfl O5.out (by simp) (w.heap.size + 1) 2 2 (tr1 (.slice (some ⟨w.heap.size, 0, none⟩) 1 1)) rfl rfl (by omega) X5.out T5.out ?_; intro v5 w5 h5 hg5 _; rw [List.nil_append] at h5; have O6 := Lib.hid h5; obtain ⟨g5, cap5, e5, hg1, hg2, ⟨y0, y1, y2⟩, ⟨z0, z1, z2⟩, hRR⟩ := rule_set h5; subst e5; have RR := Lib.hid (hRR 3 0 ⟨#[104, 111, 109, 101]⟩); have B5 := Lib.hid h5.2.1; clear h5 hg5 hRR))
  have hcap : (2 : Int) ≤ (cap5 : Int) := by obtain ⟨A, c, e, h, _⟩ := O6.out.rs; cases e; exact_mod_cast h
  go_upto_region 5 with fail
  have B6 : Hid (Below w4.heap.size w4 (((w5.setCell ⟨g5, 13, none⟩ (.int .i64 3)).setCell ⟨g5, 14, none⟩ (.int .i64 0)).setCell ⟨g5, 15, none⟩ (.string ⟨#[104, 111, 109, 101]⟩))) := ((B5.out.setCell (p := ⟨g5, 13, none⟩) hg1 _).setCell (p := ⟨g5, 14, none⟩) hg1 _).setCell (p := ⟨g5, 15, none⟩) hg1 _
  have RS6 : Hid (Rs (((w5.setCell ⟨g5, 13, none⟩ (.int .i64 3)).setCell ⟨g5, 14, none⟩ (.int .i64 0)).setCell ⟨g5, 15, none⟩ (.string ⟨#[104, 111, 109, 101]⟩)) (.slice (some ⟨g5, 0, none⟩) 2 cap5) (tr2 (.slice (some ⟨w.heap.size, 0, none⟩) 1 1))) := RR.out
  clear RR y0 y1 y2 z0 z1 z2 O6 B5 O5 T5 T4 D45 X5
  generalize ((w5.setCell ⟨g5, 13, none⟩ (.int .i64 3)).setCell ⟨g5, 14, none⟩ (.int .i64 0)).setCell ⟨g5, 15, none⟩ (.string ⟨#[104, 111, 109, 101]⟩) = w6 at *
  go_upto_region 6 with (first | (go_at_call 7; refine (run_go2 RS6.out).mono ?_; rintro e w7 ⟨v1, v2, v3, v4, rfl, hz, hb7⟩; have B7 := Lib.hid (B6.out.trans (hb7.mono B6.out.size)); obtain ⟨p1, i1, d1, p2, i2, d2, p3, i3, d3, p4, i4, d4, q1, q2, q3, q4⟩ := hz.shape; subst q1 q2 q3 q4; clear hz hb7))
  have B8 := Lib.hid (B7.out.alloc B7.out.size (.cells #[.slice p1 i1 d1, .slice p2 i2 d2, .int .i64 0, .slice p3 i3 d3, .slice p4 i4 d4, .int .i64 0] 36 (0, 0)))
  generalize w7.alloc (.cells #[.slice p1 i1 d1, .slice p2 i2 d2, .int .i64 0, .slice p3 i3 d3, .slice p4 i4 d4, .int .i64 0] 36 (0, 0)) = w8 at *
  clear B6 B7 RS6
  have D28 := Lib.hid (D24.out.trans (B8.out.mono D24.out.size))
  have D38 := Lib.hid (D4.out.trans (B8.out.mono D4.out.size))
  have R8 := Lib.hid (R2.out.call D28.out)
  have H18 := Lib.hid (H1.out.call D38.out)
  have H28 := Lib.hid (H2.out.call D38.out)
  have H38 := Lib.hid (H3.out.1.call D38.out)
  have X8 := Lib.hid (blk_call X3.out B8.out)
  have B08 := Lib.hid (B0.out.trans (D28.out.mono B0.out.size))
  obtain ⟨⟨k0, k1, k2, k3, k4, k5⟩, -⟩ := blk6 X8.out
  have HPR := Lib.hid (print12 _ _ [shT] [] w8 H18.out H28.out)
  rw [tr_prn] at HPR
  go_wp2_with (first
    | (go_at_call 8; refine HPR.out.mono ?_; rintro e w9 ⟨rfl, hb9⟩; have B9 := Lib.hid hb9; obtain ⟨⟨k0, k1, k2, k3, k4, k5⟩, -⟩ := blk6 (blk_call X8.out hb9); clear hb9)
    | (go_at_call 9; first
        | (with_reducible refine (run_key0 (R8.out.call B9.out) (H38.out.call B9.out)).mono ?_; rintro e wa ⟨rfl, hba⟩; have Ba := Lib.hid (B9.out.trans (hba.mono B9.out.size)); obtain ⟨⟨k0, k1, k2, k3, k4, k5⟩, -⟩ := blk6 (blk_call X8.out Ba.out); clear hba)
        | (with_reducible refine (run_key1 (R8.out.call Ba.out) (H38.out.call Ba.out)).mono ?_; rintro e wb ⟨rfl, hbb⟩; have Bb := Lib.hid (Ba.out.trans (hbb.mono Ba.out.size)); clear hbb)))
  go_ret
  exact ⟨rfl, B08.out.trans (Bb.out.mono B08.out.size)⟩
end Go.Proofs.YthigandmemifoaaGreatDoor

namespace Go.Proofs.YthigandmemifoaaGreatDoor
open Go.RowKit Go.PlainAid
set_option maxRecDepth 100000

theorem fdP_yes {l : List Rc} {p : List ByteArray} (q : List Pr) (h : fdB l p = true) : fdP l p q = ⟨p, q, fdI l p, chL l (fdI l p), fdL l p, 0⟩ := by rw [fdP, if_pos h]
theorem fl_yes {l : List Rc} {s : ByteArray} (h : flB l s = true) : fdB l (rvL l s []) = true ∧ flP l s = fdP l (rvL l s []) [] := by
  rw [flB, Bool.and_eq_true] at h
  exact ⟨h.2, by rw [flP, if_pos h.1]⟩
/-- what comes of a way -/
def Ends (l : List Rc) (n : Nat) (g : Nat → Bool) (pl0 : Pl) (h : Int) (r : Int × Pl) : Prop :=
  (r.1 = 0 ∧ ∃ p q h', rightB p q = true ∧ fdB l p = true ∧ r.2 = { fdP l p q with h := h' } ∧ h ≤ h' ∧ h' ≤ 5 ∧ (syL l n g (fdP l p q).c).1 = 0 ∧ (h' = h → pl0 = fdP l p q) ∧ (h' ≠ h → q = [])) ∨ (r.2 = zPl ∧ (r.1 = 2 ∨ r.1 = 3 ∨ r.1 = 4))
theorem goL_ends (l : List Rc) (n : Nat) (g : Nat → Bool) : ∀ (f : Nat) (ok : Bool) (pl0 : Pl) (h : Int), h + f = 6 → 1 ≤ f → (ok = true → ∃ p q, rightB p q = true ∧ fdB l p = true ∧ pl0 = fdP l p q) → Ends l n g pl0 h (goL l n g f ok pl0 h) := by
  intro f
  induction f with
  | zero => intro ok pl0 h _ h1; omega
  | succ f ih =>
    intro ok pl0 h hf _ hok
    rw [goL]
    cases ok with
    | false => exact Or.inr ⟨by simp, Or.inl (by simp)⟩
    | true =>
      obtain ⟨p, q, h1, h2, h3⟩ := hok rfl
      rw [if_neg (by simp)]
      rcases sy_range l n g pl0.c with h0 | h0 | h0
      · rw [if_pos h0]
        exact Or.inl ⟨rfl, p, q, h, h1, h2, by rw [h3], by omega, by omega, by rw [← h3]; exact h0, fun _ => h3, fun e => absurd rfl e⟩
      · rw [if_neg (by omega), if_pos h0]
        exact Or.inr ⟨rfl, Or.inr (Or.inl rfl)⟩
      · rw [if_neg (by omega), if_neg (by omega)]
        by_cases h5 : h = 5
        · rw [if_pos h5]
          exact Or.inr ⟨rfl, Or.inr (Or.inr rfl)⟩
        · rw [if_neg h5]
          have hf' : (h + 1) + (f : Int) = 6 := by omega
          have := ih (flB l (syL l n g pl0.c).2) (flP l (syL l n g pl0.c).2) (h + 1) hf' (by omega) (fun hb => ⟨_, [], rv_right _ _ _, (fl_yes hb).1, (fl_yes hb).2⟩)
          generalize hfl : flP l (syL l n g pl0.c).2 = FP at this
          rcases this with ⟨e1, p', q', h', a1, a2, a3, a4, a5, a6, a7, a8⟩ | e
          · refine Or.inl ⟨e1, p', q', h', a1, a2, a3, by omega, a5, a6, fun e => by omega, fun _ => ?_⟩
            by_cases e : h' = h + 1
            · have := a7 e
              by_cases hb : flB l (syL l n g pl0.c).2 = true
              · rw [(fl_yes hb).2, fdP_yes [] (fl_yes hb).1] at hfl
                rw [← hfl, fdP_yes q' a2] at this
                exact (congrArg Pl.q this).symm
              · have hb : flB l (syL l n g pl0.c).2 = false := by simpa using hb
                rw [hb] at e1
                cases f with
                | zero => omega
                | succ f => rw [goL] at e1; simp at e1
            · exact a8 e
          · exact Or.inr e
theorem goM_ends (l : List Rc) (n : Nat) (g : Nat → Bool) {p : List ByteArray} {q : List Pr} (h : rightB p q = true) : Ends l n g (fdP l p q) 0 (goM l n g p q) :=
  goL_ends l n g 6 _ _ 0 (by omega) (by omega) (fun hb => ⟨p, q, h, hb, rfl⟩)
theorem goM_stay {l : List Rc} {n : Nat} {g : Nat → Bool} {p : List ByteArray} {q : List Pr} (h1 : fdB l p = true) (h2 : (syL l n g (fdP l p q).c).1 = 0) : goM l n g p q = (0, { fdP l p q with h := 0 }) := by
  rw [goM, goL, if_neg (by simp [h1]), if_pos h2]
theorem goS_prn (l : List Rc) (n : Nat) (g : Nat → Bool) {p : List ByteArray} {q : List Pr} (h : rightB p q = true) : goS l n g (prnS p q) = goM l n g p q := by
  obtain ⟨h1, h2, h3⟩ := par_prn h
  rw [goS, if_pos h1, h2, h3]
theorem goL_step (l : List Rc) (n : Nat) (g : Nat → Bool) (f : Nat) (ok : Bool) (pl : Pl) (h : Int) : goL l n g (f + 1) ok pl h = if ok = false then (2, zPl) else if (syL l n g pl.c).1 = 0 then (0, { pl with h := h }) else if (syL l n g pl.c).1 = 1 then (3, zPl) else if h = 5 then (4, zPl) else goL l n g f (flB l (syL l n g pl.c).2) (flP l (syL l n g pl.c).2) (h + 1) := rfl
/-- a query changes nothing but itself -/
theorem goM_query (l : List Rc) (n : Nat) (g : Nat → Bool) (p : List ByteArray) (q q' : List Pr) : (goM l n g p q').1 = (goM l n g p q).1 ∧ (goM l n g p q').2.i = (goM l n g p q).2.i ∧ (goM l n g p q').2.h = (goM l n g p q).2.h := by
  rw [goM, goM]
  have hc : (fdP l p q').c = (fdP l p q).c ∧ (fdP l p q').i = (fdP l p q).i := by
    rw [fdP, fdP]
    split <;> exact ⟨rfl, rfl⟩
  rw [goL_step l n g 5 _ (fdP l p q'), goL_step l n g 5 _ (fdP l p q), hc.1]
  by_cases c1 : fdB l p = false
  · rw [if_pos c1, if_pos c1]
    exact ⟨rfl, rfl, rfl⟩
  · rw [if_neg c1, if_neg c1]
    by_cases c2 : (syL l n g (fdP l p q).c).1 = 0
    · rw [if_pos c2, if_pos c2]
      exact ⟨rfl, hc.2, rfl⟩
    · rw [if_neg c2, if_neg c2]
      exact ⟨rfl, rfl, rfl⟩

/-! where To's texts lead -/
theorem arr_at {l : List Rc} {n : Nat} {g : Nat → Bool} {ts : List ByteArray} (ht : rightB ts [] = true) : (∃ er, goS l n g (prnS ts []) = (er, zPl) ∧ (er = 2 ∨ er = 3 ∨ er = 4)) ∨ ∃ p q h', goS l n g (prnS ts []) = (0, { fdP l p q with h := h' }) ∧ rightB p q = true ∧ fdB l p = true ∧ 0 ≤ h' ∧ h' ≤ 5 ∧ (syL l n g (fdP l p q).c).1 = 0 ∧ goS l n g (prnS p q) = (0, { fdP l p q with h := 0 }) ∧ (h' = 0 → prnS p q = prnS ts []) := by
  rw [goS_prn l n g ht]
  rcases goM_ends l n g ht with ⟨e1, p, q, h', a1, a2, a3, a4, a5, a6, a7, a8⟩ | ⟨e2, e1⟩
  · refine Or.inr ⟨p, q, h', Prod.ext e1 a3, a1, a2, a4, a5, a6, ?_, fun e => ?_⟩
    · rw [goS_prn l n g a1]; exact goM_stay a2 a6
    · have := a7 e
      by_cases hb : fdB l ts = true
      · rw [fdP_yes [] hb, fdP_yes q a2] at this
        have h1 := congrArg Pl.p this
        have h2 := congrArg Pl.q this
        simp only at h1 h2
        rw [← h1, ← h2]
      · have hb : fdB l ts = false := by simpa using hb
        rw [goM, hb, goL] at e1
        simp at e1
  · exact Or.inl ⟨_, Prod.ext rfl e2, e1⟩
end Go.Proofs.YthigandmemifoaaGreatDoor

namespace Go.Proofs.YthigandmemifoaaGreatDoor
open Go.RowKit Go.PlainAid
set_option maxRecDepth 100000

set_option maxHeartbeats 1600000 in
theorem equal31 (v1 v2 : Value) (a b : List ByteArray) (w : World) (h1 : Ss w v1 a) (h2 : Ss w v2 b) (hz : a.length ≤ 100000) :
    Calls Tryz.prog 56 #[v1, v2] w fun e w' => e = .returned (.bool (decide (a = b))) ∧ Below w.heap.size w w' := by
  obtain ⟨A, cap, rfl, _, _, hc⟩ := h1
  obtain ⟨A2, cap2, rfl, _, _, hc2⟩ := h2
  have HC := Lib.hid hc
  have HC2 := Lib.hid hc2
  clear hc hc2
  by_cases hl : a.length = b.length
  · have HL := Lib.hid hl
    have c0 : ((a.length : Int) == (b.length : Int)) = true := by simp; omega
    clear hl
    go_enter Tryz.func56, Tryz.ntmps56
    go_wp2_with fail
    (try rw [c0])
    clear c0
    go_loopw [13] (fun i wr => ∃ (k : Nat), k ≤ a.length ∧ i = .int .i64 k ∧ a.take k = b.take k ∧ Below w.heap.size w wr) (fun i _ => a.length - (intOf i).toNat)
    case atStart => exact ⟨0, Nat.zero_le _, rfl, rfl, Below.refl _ _⟩
    case round =>
      obtain ⟨k, hk, rfl, ht, hbw⟩ := hrel
      have HT := Lib.hid ht
      have HW := Lib.hid hbw
      have hl2 := HL.out
      clear ht hbw
      by_cases hlt : k < a.length
      · have d0 : (k : Int) < (a.length : Int) := by omega
        have d1 : (k : Int) < (b.length : Int) := by omega
        have HX := Lib.hid (take_eq_next HT.out hlt (by omega))
        have HY := Lib.hid (@ne_at _ _ a b k)
        obtain ⟨x, o, rfl, hcell⟩ := HC.out k hlt
        obtain ⟨x2, o2, rfl, hcell2⟩ := HC2.out k (by omega)
        have g1 : wr.cell? ⟨x, o + k, none⟩ = some (.string (a.getD k default)) := by rw [HW.out.cell (World.block_lt_of_cell? _ _ hcell)]; exact hcell
        have g2 : wr.cell? ⟨x2, o2 + k, none⟩ = some (.string (b.getD k default)) := by rw [HW.out.cell (World.block_lt_of_cell? _ _ hcell2)]; exact hcell2
        clear hcell hcell2
        clear hl2
        generalize a.getD k default = s at *
        generalize b.getD k default = t at *
        by_cases hst : s = t
        · have q1 := str_beq s t hst
          have HST := Lib.hid hst
          clear hst
          go_wp2_with fail
          go_region
          go_wp2_with fail
          go_roundw
          case rel => exact ⟨k + 1, by omega, by go_num, HX.out HST.out, HW.out.drew⟩
          case measure => simp [intOf]; omega
        · have q1 := str_bne s t hst
          have e0 : decide (a = b) = false := decide_eq_false (HY.out hst)
          have E0 := Lib.hid e0
          clear e0 hst HX HY
          go_wp2_with fail
          go_region
          go_wp2
          rw [E0.out]
          go_ret
          exact ⟨rfl, HW.out.drew⟩
      · obtain rfl : k = a.length := by omega
        have e0 : decide (a = b) = true := by
          have := HT.out
          rw [List.take_length, hl2, List.take_length] at this
          exact decide_eq_true this
        have E0 := Lib.hid e0
        clear e0 hl2
        go_wp2
        rw [E0.out]
        go_ret
        exact ⟨rfl, HW.out⟩
  · have c0 : ¬ (a.length : Int) = (b.length : Int) := by omega
    have c1 : ((a.length : Int) == (b.length : Int)) = false := by simpa using c0
    have e0 : decide (a = b) = false := decide_eq_false (fun h => hl (by rw [h]))
    have E0 := Lib.hid e0
    clear e0
    go_enter Tryz.func56, Tryz.ntmps56
    go_wp2
    rw [E0.out]
    go_ret
    exact ⟨rfl, Below.refl _ _⟩

set_option maxHeartbeats 1600000 in
theorem equal32 (v1 v2 : Value) (a b : List Pr) (w : World) (h1 : Ps w v1 a) (h2 : Ps w v2 b) (hz : a.length ≤ 100000) :
    Calls Tryz.prog 57 #[v1, v2] w fun e w' => e = .returned (.bool (decide (a = b))) ∧ Below w.heap.size w w' := by
  obtain ⟨A, cap, rfl, _, _, hc⟩ := h1
  obtain ⟨A2, cap2, rfl, _, _, hc2⟩ := h2
  have HC := Lib.hid hc
  have HC2 := Lib.hid hc2
  clear hc hc2
  by_cases hl : a.length = b.length
  · have HL := Lib.hid hl
    have c0 : ((a.length : Int) == (b.length : Int)) = true := by simp; omega
    clear hl
    go_enter Tryz.func57, Tryz.ntmps57
    go_wp2_with fail
    (try rw [c0])
    clear c0
    go_loopw [13] (fun i wr => ∃ (k : Nat), k ≤ a.length ∧ i = .int .i64 k ∧ a.take k = b.take k ∧ Below w.heap.size w wr) (fun i _ => a.length - (intOf i).toNat)
    case atStart => exact ⟨0, Nat.zero_le _, rfl, rfl, Below.refl _ _⟩
    case round =>
      obtain ⟨k, hk, rfl, ht, hbw⟩ := hrel
      have HT := Lib.hid ht
      have HW := Lib.hid hbw
      have hl2 := HL.out
      clear ht hbw
      by_cases hlt : k < a.length
      · have d0 : (k : Int) < (a.length : Int) := by omega
        have d1 : (k : Int) < (b.length : Int) := by omega
        have HX := Lib.hid (take_eq_next HT.out hlt (by omega))
        have HY := Lib.hid (@ne_at _ _ a b k)
        obtain ⟨x, o, rfl, hcell, hcelb⟩ := HC.out k hlt
        obtain ⟨x2, o2, rfl, hcell2, hcelb2⟩ := HC2.out k (by omega)
        have g1 : wr.cell? ⟨x, o + k * 2, none⟩ = some (.string (a.getD k default).1) := by rw [HW.out.cell (World.block_lt_of_cell? _ _ hcell)]; exact hcell
        have g2 : wr.cell? ⟨x2, o2 + k * 2, none⟩ = some (.string (b.getD k default).1) := by rw [HW.out.cell (World.block_lt_of_cell? _ _ hcell2)]; exact hcell2
        have g3 : wr.cell? ⟨x, o + k * 2 + 1, none⟩ = some (.string (a.getD k default).2) := by rw [HW.out.cell (World.block_lt_of_cell? _ _ hcelb)]; exact hcelb
        have g4 : wr.cell? ⟨x2, o2 + k * 2 + 1, none⟩ = some (.string (b.getD k default).2) := by rw [HW.out.cell (World.block_lt_of_cell? _ _ hcelb2)]; exact hcelb2
        clear hcell hcell2 hcelb hcelb2
        clear hl2
        generalize a.getD k default = s at *
        generalize b.getD k default = t at *
        by_cases hst : s = t
        · obtain ⟨q1, q2⟩ := pr_beq s t hst
          obtain ⟨s, s'⟩ := s
          obtain ⟨t, t'⟩ := t
          simp only at q1 q2 g1 g2 g3 g4
          have HST := Lib.hid hst
          clear hst
          go_wp2_with fail
          go_region
          go_wp2_with fail
          go_roundw
          case rel => exact ⟨k + 1, by omega, by go_num, HX.out HST.out, HW.out.drew⟩
          case measure => simp [intOf]; omega
        · have e0 : decide (a = b) = false := decide_eq_false (HY.out hst)
          have E0 := Lib.hid e0
          have hq := pr_bne s t hst
          clear e0 hst HX HY
          obtain ⟨s, s'⟩ := s
          obtain ⟨t, t'⟩ := t
          simp only at hq g1 g2 g3 g4
          rcases hq with q1 | ⟨q1, q2⟩
          all_goals
            go_wp2_with fail
            go_region
            go_wp2
            rw [E0.out]
            go_ret
            exact ⟨rfl, HW.out.drew⟩
      · obtain rfl : k = a.length := by omega
        have e0 : decide (a = b) = true := by
          have := HT.out
          rw [List.take_length, hl2, List.take_length] at this
          exact decide_eq_true this
        have E0 := Lib.hid e0
        clear e0 hl2
        go_wp2
        rw [E0.out]
        go_ret
        exact ⟨rfl, HW.out⟩
  · have c0 : ¬ (a.length : Int) = (b.length : Int) := by omega
    have c1 : ((a.length : Int) == (b.length : Int)) = false := by simpa using c0
    have e0 : decide (a = b) = false := decide_eq_false (fun h => hl (by rw [h]))
    have E0 := Lib.hid e0
    clear e0
    go_enter Tryz.func57, Tryz.ntmps57
    go_wp2
    rw [E0.out]
    go_ret
    exact ⟨rfl, Below.refl _ _⟩

end Go.Proofs.YthigandmemifoaaGreatDoor
