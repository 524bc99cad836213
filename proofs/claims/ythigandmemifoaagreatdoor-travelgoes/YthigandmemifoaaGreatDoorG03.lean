/-
  the reference's Travel: its small pieces.
-/
import Derived.Test.YthigandmemifoaaGreatDoorP40
import Derived.Test.YthigandmemifoaaGreatDoorP16
import Derived.Test.YthigandmemifoaaGreatDoorP32
import Derived.Test.YthigandmemifoaaGreatDoorG02
namespace Go.Proofs.YthigandmemifoaaGreatDoor
open Go.RowKit Go.PlainAid
set_option maxRecDepth 100000

set_option maxHeartbeats 6400000 in
theorem refChain25o (v : Value) (l : List Rc) (i : Nat) (w : World) (h : Rs w v l) (hp : ParOk l) (hi : i < l.length) (hz : l.length ≤ 16) :
    Calls Tryz.prog 31 #[v, .int .i64 (i : Int)] w fun e w' => ∃ u, e = .returned u ∧ OwnI w.heap.size w u (chL l i) w' := by
  have HS := Lib.hid h
  obtain ⟨A, cap, rfl⟩ := h.len
  clear h
  have HP := Lib.hid hp
  clear hp
  go_enter Tryz.func31, Tryz.ntmps31
  go_wp2_with fail
  go_loopw [1, 5] (fun s1 s5 wr => ∃ (j : Int) (done : List Nat), s1 = .int .i64 j ∧ Hid (OwnI w.heap.size w s5 done wr) ∧ Hid (cpL l j ++ done = chL l (i : Int)) ∧ -1 ≤ j ∧ (done.length : Int) + (j + 1) ≤ (l.length : Int)) (fun s1 _ _ => (intOf s1 + 1).toNat)
  case atStart => exact ⟨i, [], rfl, nilI _ _ _ (Below.refl _ _) (Nat.le_refl _), by show _ = _; rw [cpL, if_pos (by omega), List.append_nil], by omega, by simp; omega⟩
  case round =>
    obtain ⟨j, done, rfl, HO, HC, hj1, hjl⟩ := hrel
    obtain ⟨A5, c5, h5⟩ := HO.out.ni.lenN
    subst h5
    by_cases h0 : 0 ≤ j
    · obtain ⟨k, rfl⟩ : ∃ k : Nat, j = (k : Int) := ⟨j.toNat, by omega⟩
      have hkl : k < l.length := by omega
      have d0 : (k : Int) < (l.length : Int) := by omega
      have d1 : (done.length : Int) ≤ 16 := by omega
      have HB := Lib.hid HO.out.2.1
      obtain ⟨x, o, rfl, hat, -⟩ := HS.out.at k hkl
      have X1 := Lib.hid hat.c1
      have HN := Lib.hid (HP.out k hkl)
      have HE := Lib.hid (ch_step HP.out k hkl)
      clear hat
      generalize l.getD k default = r at *
      have O1 := Lib.hid (ownI_one' wr w.heap.size w HB.out HO.out.2.2 k)
      have N1 := Lib.hid (HO.out.ni.call ((Below.refl _ wr).alloc (Nat.le_refl _) (.cells #[.int .i64 (k : Int)] 3 (0, 0))))
      go_wp2_with (first
        | (at_builtin; refine wpList_catI (w := wr.alloc (.cells #[.int .i64 (k : Int)] 3 (0, 0))) rfl (.tmp 20) (.tmp 21) rfl rfl O1.out (by simp) _ done rfl (by omega) N1.out ?_; intro v6 w6 h6 hg6; have H6 := Lib.hid h6; have g1 : w6.cell? ⟨x, o + k * 8 + 1, none⟩ = some (.int .i64 r.p) := (by rw [h6.belowC.cell (World.block_lt_of_cell? w _ X1.out)]; exact X1.out); obtain ⟨A6, n6, c6, e6⟩ := h6.shapeC; subst e6; clear h6 hg6))
      go_roundw
      case rel =>
        obtain ⟨n1, n2⟩ := HN.out
        refine ⟨r.p, [k] ++ done, rfl, H6.out, ?_, n1, by simp; omega⟩
        show _ = _
        rw [← HC.out]
        show _ = cpL l (k : Int) ++ done
        rw [cpL, cpL, if_pos h0, HE.out, List.append_assoc]
      case measure => have := HN.out; simp [intOf]; omega
    · have E0 : Hid (done = chL l (i : Int)) := by
        have := HC.out
        rw [cpL, if_neg h0, List.nil_append] at this
        exact this
      go_wp2
      go_ret
      exact ⟨_, rfl, by rw [← E0.out]; exact HO.out⟩

theorem refResolve30 (v : Value) (l : List Rc) (pv : Value) (path : List ByteArray) (w : World) (h : Rs w v l) (hf : Fit l) (hz : SzR l)
    (hp : Ss w pv path) (hsz : ∀ s ∈ path, s.size ≤ 100000000) (hpl : path.length ≤ 1000) :
    Calls Tryz.prog 30 #[v, pv] w fun e w' => ∃ A n c, e = .returned (.tuple #[.int .i64 (fdI l path), .slice A n c, .bool (fdB l path)]) ∧ Ps w' (.slice A n c) (fdL l path) ∧ Below w.heap.size w w' := by
  by_cases hr : rtB l = true
  · refine (refResolve10_yes v l pv path w h hf hz hr hp hsz hpl (fdA_all l path hr)).mono ?_
    rintro e w' ⟨u, rfl, h1, h2⟩
    obtain ⟨A, n, c, rfl⟩ := h1.shape
    exact ⟨A, n, c, rfl, h1, h2⟩
  · have hr : rtB l = false := by simpa using hr
    obtain ⟨A2, n2, c2, rfl⟩ := hp.shape
    refine (refResolve10_no v l A2 n2 c2 w h hf hz hr).mono ?_
    rintro e w' ⟨rfl, h2⟩
    have e : fdA l path = [] := by rw [fdA, hr]; rfl
    refine ⟨none, 0, 0, ?_, ?_, h2⟩
    · rw [fdI, fdB, e]; rfl
    · rw [fdL, e]; exact ps_nil _
/-- the end with an error: the place is zero -/
theorem ref_err {r : Int × Pl} {w w4 : World} {X : Nat} {tmps : Array Value} {er : Int} (hr : r = (er, zPl)) (ht : tmps.getD 6 undef = .pointer (some ⟨X, 0, none⟩)) (h7 : tmps.getD 7 undef = .int .i64 er) (hX : w.heap.size ≤ X) {a0 a1 a2 a3 a4 a5 : Value} (hK : w4.heap[X]? = some (.cells #[a0, a1, a2, a3, a4, a5] 50 (0, 0))) (hb : Below w.heap.size w w4) :
    bodyPost Tryz.prog Tryz.f12 (GoPost r w) .ret { tmps := tmps, defers := [] } ((((((w4.setCell ⟨X, 0, none⟩ (.slice none 0 0)).setCell ⟨X, 1, none⟩ (.slice none 0 0)).setCell ⟨X, 2, none⟩ (.int .i64 0)).setCell ⟨X, 3, none⟩ (.slice none 0 0)).setCell ⟨X, 4, none⟩ (.slice none 0 0)).setCell ⟨X, 5, none⟩ (.int .i64 0)) := by
  subst hr
  have K := set6 hK (.slice none 0 0) (.slice none 0 0) (.int .i64 0) (.slice none 0 0) (.slice none 0 0) (.int .i64 0)
  have D := kp6 w4 X (.slice none 0 0) (.slice none 0 0) (.int .i64 0) (.slice none 0 0) (.slice none 0 0) (.int .i64 0)
  generalize (((((w4.setCell ⟨X, 0, none⟩ (.slice none 0 0)).setCell ⟨X, 1, none⟩ (.slice none 0 0)).setCell ⟨X, 2, none⟩ (.int .i64 0)).setCell ⟨X, 3, none⟩ (.slice none 0 0)).setCell ⟨X, 4, none⟩ (.slice none 0 0)).setCell ⟨X, 5, none⟩ (.int .i64 0) = w5 at *
  obtain ⟨⟨k0, k1, k2, k3, k4, k5⟩, -⟩ := blk6 K
  refine bodyPost_ret (v := .tuple #[.agg #[.slice none 0 0, .slice none 0 0, .int .i64 0, .slice none 0 0, .slice none 0 0, .int .i64 0], .int .i64 er]) ?_ rfl ?_
  · rw [results_cell_tmp rfl, ht, h7]
    go_simp
  · exact GoPost.mk _ _ _ _ 0 0 er rfl rfl rfl rfl (plOk_zero _) (hb.trans (D.below (by have := hb.size; omega) (fun k hk e => by omega)))
/-- the end at a place -/
theorem ref_fin {r : Int × Pl} {w w4 : World} {X : Nat} {tmps : Array Value} {pl : Pl} {h : Int} {A1 A2 A3 A4 : Option Addr} {n1 n2 n3 n4 c1 c2 c3 c4 : Nat} (hr : r = (0, { pl with h := h })) (ht : tmps.getD 6 undef = .pointer (some ⟨X, 0, none⟩)) (h7 : tmps.getD 7 undef = .int .i64 0) (hX : w.heap.size ≤ X) (hK : w4.heap[X]? = some (.cells #[.slice none 0 0, .slice none 0 0, .int .i64 0, .slice none 0 0, .slice none 0 0, .int .i64 0] 50 (0, 0))) (hp : PlOk w4 (.slice A1 n1 c1) (.slice A2 n2 c2) (.slice A3 n3 c3) (.slice A4 n4 c4) pl) (hb : Below w.heap.size w w4) :
    bodyPost Tryz.prog Tryz.f12 (GoPost r w) .ret { tmps := tmps, defers := [] } ((((((w4.setCell ⟨X, 0, none⟩ (.slice A1 n1 c1)).setCell ⟨X, 1, none⟩ (.slice A2 n2 c2)).setCell ⟨X, 2, none⟩ (.int .i64 pl.i)).setCell ⟨X, 3, none⟩ (.slice A3 n3 c3)).setCell ⟨X, 4, none⟩ (.slice A4 n4 c4)).setCell ⟨X, 5, none⟩ (.int .i64 h)) := by
  subst hr
  have K := set6 hK (.slice A1 n1 c1) (.slice A2 n2 c2) (.int .i64 pl.i) (.slice A3 n3 c3) (.slice A4 n4 c4) (.int .i64 h)
  have D := kp6 w4 X (.slice A1 n1 c1) (.slice A2 n2 c2) (.int .i64 pl.i) (.slice A3 n3 c3) (.slice A4 n4 c4) (.int .i64 h)
  generalize (((((w4.setCell ⟨X, 0, none⟩ (.slice A1 n1 c1)).setCell ⟨X, 1, none⟩ (.slice A2 n2 c2)).setCell ⟨X, 2, none⟩ (.int .i64 pl.i)).setCell ⟨X, 3, none⟩ (.slice A3 n3 c3)).setCell ⟨X, 4, none⟩ (.slice A4 n4 c4)).setCell ⟨X, 5, none⟩ (.int .i64 h) = w5 at *
  obtain ⟨⟨k0, k1, k2, k3, k4, k5⟩, -⟩ := blk6 K
  refine bodyPost_ret (v := .tuple #[.agg #[.slice A1 n1 c1, .slice A2 n2 c2, .int .i64 pl.i, .slice A3 n3 c3, .slice A4 n4 c4, .int .i64 h], .int .i64 0]) ?_ rfl ?_
  · rw [results_cell_tmp rfl, ht, h7]
    go_simp
  · exact GoPost.mk _ _ _ _ pl.i h 0 rfl rfl rfl rfl (hp.kpU hK (by decide) plC_no D) (hb.trans (D.below (by have := hb.size; omega) (fun k hk e => by omega)))

theorem say0_to {k : Int} {s : Bool} {t : ByteArray} (h : sayI k s = 0) : toT k s t = ⟨#[]⟩ := by
  unfold sayI at h
  unfold toT
  rcases kinds k with rfl | rfl | rfl | rfl | rfl | ⟨h0, h1, h2, h3, h4⟩
  · simp
  · simp
  · simp
  · simp at h
  · cases s
    · simp at h
    · simp
  · simp [h3, h4]
theorem sy_snoc (l : List Rc) (n : Nat) (g : Nat → Bool) (y : Nat) (a : List Nat) : syL l n g (a ++ [y]) = if (syL l n g a).1 = 0 then (sayI (l.getD y default).rk (fsB n g (l.getD y default).rf), toT (l.getD y default).rk (fsB n g (l.getD y default).rf) (l.getD y default).rt) else syL l n g a := by
  induction a with
  | nil =>
    rw [List.nil_append, syL, syL, if_pos rfl]
    split
    · rename_i h
      rw [h, say0_to h]
      rfl
    · rfl
  | cons k a ih =>
    rw [List.cons_append, syL, syL]
    by_cases h : sayI (l.getD k default).rk (fsB n g (l.getD k default).rf) = 0
    · rw [if_pos h, if_pos h]; exact ih
    · rw [if_neg h, if_neg h, if_neg h]
theorem sy_next (l : List Rc) (n : Nat) (g : Nat → Bool) (c : List Nat) (k : Nat) (hk : k < c.length) : syL l n g (c.take (k + 1)) = if (syL l n g (c.take k)).1 = 0 then (sayI (l.getD (c.getD k 0) default).rk (fsB n g (l.getD (c.getD k 0) default).rf), toT (l.getD (c.getD k 0) default).rk (fsB n g (l.getD (c.getD k 0) default).rf) (l.getD (c.getD k 0) default).rt) else syL l n g (c.take k) := by
  have e : c.take (k + 1) = c.take k ++ [c.getD k 0] := by
    rw [List.take_add_one]
    simp only [List.getD, List.getElem?_eq_getElem hk, Option.toList_some, Option.getD_some]
  rw [e, sy_snoc]
end Go.Proofs.YthigandmemifoaaGreatDoor
