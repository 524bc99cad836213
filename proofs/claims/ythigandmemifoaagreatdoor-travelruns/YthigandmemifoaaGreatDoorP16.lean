/-
  Put together: RfA, TrP.
-/
import Derived.Test.YthigandmemifoaaGreatDoorP12
import Derived.Test.YthigandmemifoaaGreatDoorP15
import Derived.Test.YthigandmemifoaaGreatDoorP05
import Derived.Test.YthigandmemifoaaGreatDoorP01
namespace Go.Proofs.YthigandmemifoaaGreatDoor
open Go.RowKit Go.PlainAid
set_option maxRecDepth 100000

/-- append(v, x...) of numbers, x perhaps none -/
theorem wpList_catI {B : Nat} {w0 : World} {v : Value} {w : World} {ns : List Nat} {ops : Array Oper} {rest : List Oper} {o : Oper} {a : Act} {Q : Exit → Act → World → Prop} (hgd : o.guard = none) (s x : Operand)
    (ho : o.op = .call { callee := .builtin .append, args := #[s, x], argTypes := #[34, 34] })
    (hs : a.eval s = v) (hown : OwnI B w0 v ns w) (hn : ns.length ≤ 1000)
    (xv : Value) (ys : List Nat) (hx : a.eval x = xv) (hm : ys.length ≤ 1000) (hb : Ni w xv ys)
    (h : ∀ v' w', OwnI B w0 v' (ns ++ ys) w' → w.grownBy w' v.ownBlock → wpList Tryz.prog ops Q rest (a.put o.dst v') w') : wpList Tryz.prog ops Q (o :: rest) a w := by
  refine wpList_plain hgd fun K hK => ?_
  obtain ⟨i0, hi, hz0, hz1, hz2⟩ := info_parts info3
  obtain ⟨A, c, rfl, hmc, hA, hb⟩ := hb
  cases A with
  | none =>
    have hc0 := hA rfl
    subst hc0
    obtain rfl : ys = [] := List.eq_nil_of_length_eq_zero (by omega)
    have hr := run_append_owned_none (P := Tryz.prog) (w := w) B 34 o.type 3 i0 1 Tryz.underlying34 hi v _ _ hown.1
    unfold Oper.wp execOp
    simp only [ho, resolve, invoke, builtin, Sem.run_bind, Sem.run_pure, Result.andThen_ok, List.map_toArray, List.map_cons, List.map_nil, hs, hx, List.length_nil, hr]
    rw [List.append_nil] at h
    exact hK _ _ (h v w hown (World.grownBy.refl _ _))
  | some ad =>
    have hn : ∀ j u, (niC ys)[j]? = some u → w.cell? (ad.add j) = some u := by
      intro j u hu
      have hj : j < ys.length := by
        have := (List.getElem?_eq_some_iff.1 hu).1
        rwa [niC, List.length_map] at this
      obtain ⟨b, off, e, c1⟩ := hb j hj
      cases e
      rw [Addr.add_lit, c1, ← hu]
      simp [niC, List.getD, hj]
    have h1 : ∀ u ∈ niC ys, u.oneCell' = true := by
      intro u hu
      rw [niC, List.mem_map] at hu
      obtain ⟨x, _, rfl⟩ := hu
      rfl
    have hr := run_append_own_at (P := Tryz.prog) w B 34 o.type 3 i0 (.int .i64 0) 1 8 Tryz.underlying34 hi hz0 hz1 hz2 rfl (by omega) v ns.length _ hown.1 ad ys.length c (niC ys) (by simp [niC]) hn h1 (by unfold maxLen; omega) (by omega) hown.2.2
    obtain ⟨v', w', hr, h2, h3, _, h5⟩ := hr
    unfold Oper.wp execOp
    simp only [ho, resolve, invoke, builtin, Sem.run_bind, Sem.run_pure, Result.andThen_ok, List.map_toArray, List.map_cons, List.map_nil, hs, hx, hr]
    refine hK _ _ (h v' w' ⟨?_, hown.2.1.grown h3 hown.2.2 (fun k hk => (hown.1.lt k hk).1), by have := h3.size; have := hown.2.2; omega⟩ h3)
    have e : niC (ns ++ ys) = niC ns ++ niC ys := by simp [niC]
    rw [List.length_append, e]
    exact h2

theorem ownI_one' (w : World) (B : Nat) (w0 : World) (hb : Below B w0 w) (hB : B ≤ w.heap.size) (x : Nat) : OwnI B w0 (.slice (some ⟨w.heap.size, 0, none⟩) 1 1) [x] (w.alloc (.cells #[.int .i64 (x : Int)] 3 (0, 0))) :=
  ⟨⟨rfl, .inr ⟨w.heap.size, 1, #[.int .i64 (x : Int)], rfl, hB, blk_new w _, Nat.le_refl _, by unfold maxLen; omega, rfl, by simp [niC]⟩⟩, hb.alloc hB _, by simp; omega⟩

theorem Ni.lenN {w : World} {v : Value} {ps : List Nat} (h : Ni w v ps) : ∃ A c, v = .slice A ps.length c := by
  obtain ⟨A, cap, e, _⟩ := h
  exact ⟨_, _, e⟩
/-- the chain of a parent, if there is one -/
def cpL (l : List Rc) (j : Int) : List Nat := if 0 ≤ j then chL l j else []

set_option maxHeartbeats 6400000 in
theorem refChain25 (v : Value) (l : List Rc) (i : Nat) (w : World) (h : Rs w v l) (hp : ParOk l) (hi : i < l.length) (hz : l.length ≤ 16) :
    Calls Tryz.prog 31 #[v, .int .i64 (i : Int)] w fun e w' => ∃ u, e = .returned u ∧ Ni w' u (chL l i) ∧ Below w.heap.size w w' := by
  have HS := Lib.hid h
  obtain ⟨A, cap, rfl⟩ := h.len
  clear h
  have HP := Lib.hid hp
  clear hp
  go_enter Tryz.func31, Tryz.ntmps31
  go_wp2_with fail
  go_loopw [1, 5] (fun s1 s5 wr => ∃ (j : Int) (done : List Nat), s1 = .int .i64 j ∧ Hid (OwnI w.heap.size w s5 done wr) ∧ Hid (cpL l j ++ done = chL l (i : Int)) ∧ -1 ≤ j ∧ (done.length : Int) + (j + 1) ≤ (l.length : Int)) (fun s1 _ _ => (intOf s1 + 1).toNat)
  case atStart => exact ⟨i, [], rfl, nilI _ _ _ (Below.refl _ _) (Nat.le_refl _), by show _ = _; rw [cpL, if_pos (by omega), List.append_nil], by omega, by simp; omega⟩
  case round =>
    obtain ⟨j, done, rfl, HO, HC, hj1, hjl⟩ := hrel
    obtain ⟨A5, c5, h5⟩ := HO.out.ni.lenN
    subst h5
    by_cases h0 : 0 ≤ j
    · obtain ⟨k, rfl⟩ : ∃ k : Nat, j = (k : Int) := ⟨j.toNat, by omega⟩
      have hkl : k < l.length := by omega
      have d0 : (k : Int) < (l.length : Int) := by omega
      have d1 : (done.length : Int) ≤ 16 := by omega
      have HB := Lib.hid HO.out.2.1
      obtain ⟨x, o, rfl, hat, -⟩ := HS.out.at k hkl
      have X1 := Lib.hid hat.c1
      have HN := Lib.hid (HP.out k hkl)
      have HE := Lib.hid (ch_step HP.out k hkl)
      clear hat
      generalize l.getD k default = r at *
      have O1 := Lib.hid (ownI_one' wr w.heap.size w HB.out HO.out.2.2 k)
      have N1 := Lib.hid (HO.out.ni.call ((Below.refl _ wr).alloc (Nat.le_refl _) (.cells #[.int .i64 (k : Int)] 3 (0, 0))))
      go_wp2_with (first
        | (at_builtin; refine wpList_catI (w := wr.alloc (.cells #[.int .i64 (k : Int)] 3 (0, 0))) rfl (.tmp 20) (.tmp 21) rfl rfl O1.out (by simp) _ done rfl (by omega) N1.out ?_; intro v6 w6 h6 hg6; have H6 := Lib.hid h6; have g1 : w6.cell? ⟨x, o + k * 8 + 1, none⟩ = some (.int .i64 r.p) := (by rw [h6.belowC.cell (World.block_lt_of_cell? w _ X1.out)]; exact X1.out); obtain ⟨A6, n6, c6, e6⟩ := h6.shapeC; subst e6; clear h6 hg6))
      go_roundw
      case rel =>
        obtain ⟨n1, n2⟩ := HN.out
        refine ⟨r.p, [k] ++ done, rfl, H6.out, ?_, n1, by simp; omega⟩
        show _ = _
        rw [← HC.out]
        show _ = cpL l (k : Int) ++ done
        rw [cpL, cpL, if_pos h0, HE.out, List.append_assoc]
      case measure => have := HN.out; simp [intOf]; omega
    · have E0 : Hid (done = chL l (i : Int)) := by
        have := HC.out
        rw [cpL, if_neg h0, List.nil_append] at this
        exact this
      go_wp2
      go_ret
      exact ⟨_, rfl, by rw [← E0.out]; exact HO.out.ni, HO.out.2.1⟩

set_option maxHeartbeats 6400000 in
theorem refFull22 (v : Value) (l : List Rc) (i : Nat) (w : World) (h : Rs w v l) (hf : Fit l) (hp : ParOk l) (hi : i < l.length) (hz : l.length ≤ 16) :
    Calls Tryz.prog 51 #[v, .int .i64 (i : Int)] w fun e w' => ∃ u, e = .returned u ∧ OwnG w.heap.size w u (fuL l i) w' := by
  have HS := Lib.hid h
  have HF := Lib.hid hf
  have HC := Lib.hid (refChain25 v l i w h hp hi hz)
  have HL := Lib.hid (ch_len l i)
  have HT := Lib.hid (ch_lt l i)
  have hE : fuL l i = sgsOf l (chL l i) := rfl
  rw [hE]
  clear hE
  obtain ⟨A, cap, rfl⟩ := h.len
  clear h hf hp
  generalize chL l i = ch at *
  go_enter Tryz.func51, Tryz.ntmps51
  go_wp2_with (first | (go_at_call 31; refine HC.out.mono ?_; rintro e w1 ⟨u, rfl, hn, hb⟩; have B1 := Lib.hid hb; obtain ⟨A1, c1, e1, -, -, hc⟩ := hn; subst e1; have C1 := Lib.hid hc; clear hb hc))
  go_loopw [5, 12] (fun s5 s12 wr => ∃ (k : Nat), k ≤ ch.length ∧ s12 = .int .i64 k ∧ Hid (OwnG w1.heap.size w1 s5 (sgsOf l (ch.take k)) wr)) (fun _ s12 _ => ch.length - (intOf s12).toNat)
  case atStart => exact ⟨0, Nat.zero_le _, rfl, nilG _ _ _ (Below.refl _ _) (Nat.le_refl _)⟩
  case round =>
    obtain ⟨k, hk, rfl, HO⟩ := hrel
    have hb9 : ch.length ≤ 1000 := by have h2 := HL.out; have h3 := HF.out.1; omega
    have HB := Lib.hid HO.out.2.1
    obtain ⟨A5, n5, c5, h5⟩ := HO.out.gs.shape
    subst h5
    by_cases hlt : k < ch.length
    · have d0 : (k : Int) < (ch.length : Int) := by omega
      obtain ⟨x, o, rfl, hcell⟩ := C1.out k hlt
      have g0 : wr.cell? ⟨x, o + k, none⟩ = some (.int .i64 (ch.getD k 0 : Nat)) := by rw [HB.out.cell (World.block_lt_of_cell? _ _ hcell)]; exact hcell
      have HN := Lib.hid (sgs_next l ch k hlt)
      have HM := Lib.hid (sgs_len HF.out (ch.take k))
      have hy := HT.out (ch.getD k 0) (by simp [List.getD, hlt])
      clear hcell
      generalize ch.getD k 0 = y at *
      have HBB : Hid (Below w.heap.size w wr) := B1.out.trans (HB.out.mono B1.out.size)
      obtain ⟨x2, o2, rfl, hat, hgs⟩ := (HS.out.call HBB.out).at y hy
      have g2 := hat.c2
      have GS := Lib.hid hgs
      have hs10 : Hid ((l.getD y default).l.length ≤ 10) := HF.out.2 _ (getD_mem l y hy)
      have d1 : (y : Int) < (l.length : Int) := by omega
      clear hat hgs
      obtain ⟨A7, n7, c7, h7⟩ := GS.out.shape
      rw [h7] at g2 GS
      go_wp2_with (first
        | (at_builtin; refine wpList_catG wr rfl (.tmp 16) (.tmp 21) rfl w1.heap.size w1 _ _ rfl HO.out (by have h1 := HM.out; have h2 := HL.out; have h3 := HF.out.1; rw [List.length_take] at h1; omega) _ _ rfl hs10.out GS.out ?_; intro v6 w6 h6 hg6; have H6 := Lib.hid h6; obtain ⟨A6, n6, c6, e6⟩ := h6.gs.shape; subst e6; clear h6 hg6))
      go_roundw
      case rel =>
        refine ⟨k + 1, by omega, by go_num, ?_⟩
        rw [HN.out]
        exact H6.out
      case measure => simp [intOf]; omega
    · obtain rfl : k = ch.length := by omega
      rw [List.take_length] at HO
      go_wp2
      go_ret
      exact ⟨_, rfl, HO.out.rebase B1.out.size B1.out⟩

theorem rg_one (s : ByteArray) : rgB [(0, s)] = txB s := by
  have e : okB [((0 : Int), s)] 0 = txB s := by
    rw [okB]
    show (stB 0 _ && (txB s && !twB (0, s) [])) = _
    rw [stB, if_pos (Or.inl rfl), twB, if_pos rfl]
    simp
  rw [rgB]
  show (true && (okB [((0 : Int), s)] 0 && true)) = _
  rw [e]
  simp
set_option maxHeartbeats 1600000 in
theorem word35 (s : ByteArray) (w : World) (hs : s.size ≤ 9223372036854775807) : Calls Tryz.prog 71 #[.string s] w fun e w' => e = .returned (.bool (txB s)) ∧ Below w.heap.size w w' := by
  have HR := Lib.hid (rightPat17 (.slice (some ⟨w.heap.size, 0, none⟩) 1 1) [(0, s)] (w.alloc (.cells #[.int .i64 0, .string s] 28 (0, 0))) (gs_new (l := [(0, s)]) (blk_new w _) rfl) (fun g hg => by rw [List.mem_singleton] at hg; subst hg; exact hs))
  rw [rg_one] at HR
  have HB := Lib.hid ((Below.refl w.heap.size w).alloc (Nat.le_refl _) (.cells #[.int .i64 0, .string s] 28 (0, 0)))
  go_enter Tryz.func71, Tryz.ntmps71
  go_wp2_with (first | (go_at_call 72; refine HR.out.mono ?_; rintro e w1 ⟨rfl, h1⟩; have H1 := Lib.hid h1; clear h1))
  go_ret
  exact ⟨rfl, HB.out.trans (H1.out.mono HB.out.size)⟩

set_option maxHeartbeats 3200000 in
theorem refNamed15 (v : Value) (l : List Rc) (s : ByteArray) (w : World) (h : Rs w v l) (hz : l.length ≤ 1000000000) :
    Calls Tryz.prog 54 #[v, .string s] w fun e w' => e = .returned (.int .i64 (nmI l s)) ∧ Below w.heap.size w w' := by
  have HS := Lib.hid h
  obtain ⟨A, cap, rfl⟩ := h.len
  clear h
  go_enter Tryz.func54, Tryz.ntmps54
  go_wp2_with fail
  go_loopw [9] (fun i wr => ∃ (k : Nat), k ≤ l.length ∧ i = .int .i64 k ∧ (∀ j, j < k → (l.getD j default).n ≠ s) ∧ Below w.heap.size w wr) (fun i _ => l.length - (intOf i).toNat)
  case atStart => exact ⟨0, Nat.zero_le _, rfl, fun j hj => by omega, Below.refl _ _⟩
  case round =>
    obtain ⟨k, hk, rfl, ht, hbw⟩ := hrel
    have HT := Lib.hid ht
    have HW := Lib.hid hbw
    clear ht hbw
    by_cases hlt : k < l.length
    · have d0 : (k : Int) < (l.length : Int) := by omega
      obtain ⟨x, o, rfl, hat, hgs⟩ := (HS.out.call HW.out).at k hlt
      obtain ⟨g0, g1, g2, g3, g4, g5, g6, g7⟩ := hat
      obtain ⟨A7, n7, c7, h7⟩ := hgs.shape
      clear hgs
      have HN := Lib.hid (nm_at (s := s) hlt HT.out)
      have HE : Hid ((l.getD k default).n ≠ s → ∀ j, j < k + 1 → (l.getD j default).n ≠ s) := fun hn j hj => by
        by_cases e : j = k
        · rw [e]; exact hn
        · exact HT.out j (by omega)
      generalize l.getD k default = r at *
      rw [h7] at g2
      clear h7
      have HY := Lib.hid (HW.out.alloc HW.out.size (.cells #[.string r.n, .int .i64 r.p, .slice A7 n7 c7, .int .i64 r.c, .bool r.k, .int .i64 r.rk, .int .i64 r.rf, .string r.rt] 26 (0, 0)))
      have eb := bs_eq r.n s
      by_cases hp : r.n = s
      · rw [decide_eq_true hp] at eb
        have HP := Lib.hid hp
        clear hp
        go_wp2_with fail
        rw [HN.out HP.out]
        go_ret
        exact ⟨rfl, HY.out⟩
      · rw [decide_eq_false hp] at eb
        have HP : Hid (r.n ≠ s) := hp
        clear hp
        go_wp2_with fail
        go_roundw
        case rel => exact ⟨k + 1, by omega, by go_num, HE.out HP.out, HY.out⟩
        case measure => simp [intOf]; omega
    · obtain rfl : k = l.length := by omega
      have HN := Lib.hid (nm_none HT.out)
      go_wp2
      rw [HN.out]
      go_ret
      exact ⟨rfl, HW.out⟩
end Go.Proofs.YthigandmemifoaaGreatDoor

namespace Go.Proofs.YthigandmemifoaaGreatDoor

abbrev Key := List (Option ByteArray)
/-- the node that a pattern ends at, and in which of its rows -/
def home : List Sg → Key × Nat
  | [] => ([], 4)
  | g :: r => if g.1 = 2 then ([], 2) else if g.1 = 3 then ([], 3) else ((if g.1 = 1 then none else some g.2) :: (home r).1, (home r).2)
/-- optional ones and rests stand last -/
def wfS : List Sg → Prop
  | [] => True
  | g :: r => ((g.1 = 0 ∨ g.1 = 1) ∨ ((g.1 = 2 ∨ g.1 = 3) ∧ r = [])) ∧ wfS r
theorem wf_of {l : List Sg} (h : ∀ j, j < l.length → stB (l.getD j default).1 (decide (j + 1 = l.length)) = true) : wfS l := by
  induction l with
  | nil => trivial
  | cons g r ih =>
    refine ⟨?_, ih fun j hj => ?_⟩
    · have h0 : stB g.1 (decide (0 + 1 = (g :: r).length)) = true := h 0 (by simp)
      rw [stB] at h0
      by_cases h1 : g.1 = 0 ∨ g.1 = 1
      · exact Or.inl h1
      · rw [if_neg h1] at h0
        by_cases h2 : g.1 = 2 ∨ g.1 = 3
        · rw [if_pos h2] at h0
          have := of_decide_eq_true h0
          simp at this
          exact Or.inr ⟨h2, this⟩
        · rw [if_neg h2] at h0
          cases h0
    · have := h (j + 1) (by simp; omega)
      simpa using this
theorem wf_rg {l : List Sg} (h : rgB l = true) : wfS l := wf_of fun j hj => by
  have := rg_ok h j hj
  rw [okB, Bool.and_eq_true] at this
  exact this.1
/-- does a path come to it? -/
def adm : Key → Nat → List ByteArray → Bool
  | [], i, p => if i = 2 then decide (p.length ≤ 1) else if i = 3 then true else decide (p = [])
  | _ :: _, _, [] => false
  | none :: ks, i, _ :: r => adm ks i r
  | some t :: ks, i, s :: r => decide (t = s) && adm ks i r
theorem home_slot (l : List Sg) : (home l).2 = 2 ∨ (home l).2 = 3 ∨ (home l).2 = 4 := by
  induction l with
  | nil => right; right; rfl
  | cons g r ih =>
    rw [home]
    split
    · left; rfl
    · split
      · right; left; rfl
      · exact ih
theorem adm_is {l : List Sg} (h : wfS l) (p : List ByteArray) : (mtR l p).isSome = adm (home l).1 (home l).2 p := by
  induction l generalizing p with
  | nil => cases p <;> simp [mtR, home, adm]
  | cons g r ih =>
    obtain ⟨hg, hr⟩ := h
    rcases hg with hg | ⟨hg, rfl⟩
    · have n2 : ¬ g.1 = 2 := by omega
      have n3 : ¬ g.1 = 3 := by omega
      rw [mtR, home, if_neg n2, if_neg n3, tkN, if_neg n2, if_neg n3]
      cases p with
      | nil => simp [adm]
      | cons s q =>
        rw [if_neg (by simp)]
        rcases hg with h0 | h1
        · have n1 : ¬ g.1 = 1 := by omega
          by_cases hs : s = g.2
          · rw [if_neg (by simp [hs])]
            simp [n1, adm, hs, ih hr]
          · rw [if_pos ⟨h0, by simpa using hs⟩]
            simp [n1, adm, show ¬ g.2 = s from fun h => hs h.symm]
        · rw [if_neg (by omega)]
          simp [h1, adm, ih hr]
    · rcases hg with h2 | h3
      · simp only [mtR, home, if_pos h2, tkN, adm]
        cases p with
        | nil => simp
        | cons s q => cases q <;> simp
      · have n2 : ¬ g.1 = 2 := by omega
        simp only [mtR, home, if_neg n2, if_pos h3, tkN, adm]
        simp

/-- the Kinds of what stands there -/
def knH (ks : Key) (i : Nat) : List Int := ks.map (fun o => if o.isNone then 1 else 0) ++ (if i = 2 then [2] else if i = 3 then [3] else [])
theorem kn_is {l : List Sg} (h : wfS l) : l.map Prod.fst = knH (home l).1 (home l).2 := by
  induction l with
  | nil => rfl
  | cons g r ih =>
    obtain ⟨hg, hr⟩ := h
    rcases hg with hg | ⟨hg, rfl⟩
    · have n2 : ¬ g.1 = 2 := by omega
      have n3 : ¬ g.1 = 3 := by omega
      rw [home, if_neg n2, if_neg n3, List.map_cons, ih hr]
      rcases hg with h0 | h1
      · have n1 : ¬ g.1 = 1 := by omega
        simp [knH, h0]
      · simp [knH, h1]
    · rcases hg with h2 | h3
      · simp [home, h2, knH]
      · simp [home, h3, knH]
theorem lx_pre (a b b' : List Int) : lx cI (a ++ b) (a ++ b') = lx cI b b' := by
  induction a with
  | nil => rfl
  | cons x a ih => rw [List.cons_append, List.cons_append, lx_cons, if_neg (by rw [tcI.refl]; simp), ih]
/-- one of lesser Kinds goes first -/
theorem cP_kn {l l' : List Sg} (h : wfS l) (h' : wfS l') {key ks ks' : Key} {i i' : Nat} (e : home l = (key ++ ks, i)) (e' : home l' = (key ++ ks', i')) (hk : lx cI (knH ks i) (knH ks' i') < 0) : cP l l' < 0 := by
  have h1 : lx cI (l.map Prod.fst) (l'.map Prod.fst) < 0 := by
    rw [kn_is h, kn_is h', e, e']
    have s1 : ∀ (q : Key) (j : Nat), knH (key ++ q) j = key.map (fun o => if o.isNone then (1 : Int) else 0) ++ knH q j := by
      intro q j
      simp [knH]
    rw [s1, s1, lx_pre]
    exact hk
  rw [cP, if_pos (by omega)]
  exact h1
theorem lx_lt {x y : Int} (h : x < y) (a b : List Int) : lx cI (x :: a) (y :: b) < 0 := by
  have := cI_cases x y
  have e : cI x y = -1 := by omega
  rw [lx_cons, e]
  simp

section
variable {α : Type} (f : α → List Sg)
/-- what stands in a row of a node -/
def slot (es : List α) (key : Key) (i : Nat) : List α := es.filter (fun e => decide (home (f e) = (key, i)))
/-- what the rest of a path comes by from a node on -/
def wlk (es : List α) : Key → List ByteArray → List α
  | key, [] => slot f es key 2 ++ (slot f es key 3 ++ slot f es key 4)
  | key, s :: r => wlk es (key ++ [some s]) r ++ (wlk es (key ++ [none]) r ++ ((if r = [] then slot f es key 2 else []) ++ slot f es key 3))
theorem mem_slot {es : List α} {key : Key} {i : Nat} {e : α} : e ∈ slot f es key i ↔ e ∈ es ∧ home (f e) = (key, i) := by simp [slot]
theorem mem_wlk {es : List α} {p : List ByteArray} {key : Key} {e : α} : e ∈ wlk f es key p ↔ e ∈ es ∧ ∃ ks, home (f e) = (key ++ ks, (home (f e)).2) ∧ adm ks (home (f e)).2 p = true := by
  induction p generalizing key with
  | nil =>
    rw [wlk]
    simp only [List.mem_append, mem_slot]
    constructor
    · rintro (⟨h, e1⟩ | ⟨h, e1⟩ | ⟨h, e1⟩) <;> exact ⟨h, [], by rw [e1]; simp, by rw [e1]; simp [adm]⟩
    · rintro ⟨h, ks, e1, e2⟩
      cases ks with
      | cons k ks => simp [adm] at e2
      | nil =>
        rw [List.append_nil] at e1
        rcases home_slot (f e) with e3 | e3 | e3 <;> rw [e3] at e1
        · exact Or.inl ⟨h, e1⟩
        · exact Or.inr (Or.inl ⟨h, e1⟩)
        · exact Or.inr (Or.inr ⟨h, e1⟩)
  | cons s r ih =>
    rw [wlk]
    simp only [List.mem_append, ih]
    constructor
    · rintro (⟨h, ks, e1, e2⟩ | ⟨h, ks, e1, e2⟩ | h)
      · exact ⟨h, some s :: ks, by rw [List.append_assoc] at e1; exact e1, by simpa [adm] using e2⟩
      · exact ⟨h, none :: ks, by rw [List.append_assoc] at e1; exact e1, by simpa [adm] using e2⟩
      · rcases h with h | h
        · by_cases hr : r = []
          · rw [if_pos hr, mem_slot] at h
            exact ⟨h.1, [], by rw [h.2]; simp, by rw [h.2]; simp [adm, hr]⟩
          · rw [if_neg hr] at h
            cases h
        · rw [mem_slot] at h
          exact ⟨h.1, [], by rw [h.2]; simp, by rw [h.2]; simp [adm]⟩
    · rintro ⟨h, ks, e1, e2⟩
      cases ks with
      | nil =>
        rw [List.append_nil] at e1
        rcases home_slot (f e) with e3 | e3 | e3 <;> rw [e3] at e1 e2
        · simp [adm] at e2
          rw [if_pos e2]
          exact Or.inr (Or.inr (Or.inl ((mem_slot f).2 ⟨h, e1⟩)))
        · exact Or.inr (Or.inr (Or.inr ((mem_slot f).2 ⟨h, e1⟩)))
        · simp [adm] at e2
      | cons k ks =>
        cases k with
        | none => exact Or.inr (Or.inl ⟨h, ks, by rw [List.append_assoc]; exact e1, by simpa [adm] using e2⟩)
        | some t =>
          simp [adm] at e2
          obtain ⟨rfl, e2⟩ := e2
          exact Or.inl ⟨h, ks, by rw [List.append_assoc]; exact e1, e2⟩
theorem wlk_none {es : List α} {p : List ByteArray} {key : Key} (h : ∀ e ∈ es, ¬ key <+: (home (f e)).1) : wlk f es key p = [] := by
  rw [List.eq_nil_iff_forall_not_mem]
  intro e he
  rw [mem_wlk] at he
  obtain ⟨he, ks, e1, _⟩ := he
  exact h e he ⟨ks, by rw [e1]⟩
/-- a row's order goes on in what is told -/
theorem wlk_step {es : List α} {R : α → α → Prop} (hs : es.Pairwise R) (hR : ∀ a b, R a b → cP (f a) (f b) ≤ 0) (hw : ∀ e ∈ es, wfS (f e)) (key : Key) (p : List ByteArray) (ih : ∀ k s r, p = s :: r → (wlk f es k r).Pairwise R) : (wlk f es key p).Pairwise R := by
  have ss : ∀ key i, (slot f es key i).Pairwise R := fun key i => hs.sublist List.filter_sublist
  have tot : ∀ a ∈ es, ∀ b ∈ es, cP (f a) (f b) < 0 → R a b := by
    intro a ha b hb hc
    obtain ⟨i, hi, rfl⟩ := List.getElem_of_mem ha
    obtain ⟨j, hj, rfl⟩ := List.getElem_of_mem hb
    rw [List.pairwise_iff_getElem] at hs
    rcases Nat.lt_trichotomy i j with h | h | h
    · exact hs i j hi hj h
    · subst h
      rw [tcP.refl] at hc
      omega
    · have h1 := hR _ _ (hs j i hj hi h)
      have h2 := tcP.anti (f es[i]) (f es[j])
      omega
  have app : ∀ (a b : List α), a.Pairwise R → b.Pairwise R → (∀ x ∈ a, ∀ y ∈ b, x ∈ es ∧ y ∈ es ∧ cP (f x) (f y) < 0) → (a ++ b).Pairwise R := by
    intro a b ha hb h
    rw [List.pairwise_append]
    exact ⟨ha, hb, fun x hx y hy => by obtain ⟨h1, h2, h3⟩ := h x hx y hy; exact tot x h1 y h2 h3⟩
  have go : ∀ {x y : α} {ks ks' : Key} {i i' : Nat}, x ∈ es → y ∈ es → home (f x) = (key ++ ks, i) → home (f y) = (key ++ ks', i') → lx cI (knH ks i) (knH ks' i') < 0 → x ∈ es ∧ y ∈ es ∧ cP (f x) (f y) < 0 :=
    fun hx hy e e' h => ⟨hx, hy, cP_kn (hw _ hx) (hw _ hy) e e' h⟩
  have s2 : ∀ {x : α} {i : Nat}, x ∈ slot f es key i → x ∈ es ∧ home (f x) = (key ++ [], i) := by
    intro x i h
    rw [List.append_nil]
    exact (mem_slot f).1 h
  cases p with
  | nil =>
    rw [wlk]
    refine app _ _ (ss _ _) (app _ _ (ss _ _) (ss _ _) ?_) ?_
    · intro x hx y hy
      exact go (s2 hx).1 (s2 hy).1 (s2 hx).2 (s2 hy).2 (by show lx cI [3] [] < 0; rw [lx_cons_nil]; decide)
    · intro x hx y hy
      rw [List.mem_append] at hy
      rcases hy with hy | hy
      · exact go (s2 hx).1 (s2 hy).1 (s2 hx).2 (s2 hy).2 (lx_lt (by decide) _ _)
      · exact go (s2 hx).1 (s2 hy).1 (s2 hx).2 (s2 hy).2 (by show lx cI [2] [] < 0; rw [lx_cons_nil]; decide)
  | cons s r =>
    have w2 : ∀ {x : α} (o : Option ByteArray), x ∈ wlk f es (key ++ [o]) r → x ∈ es ∧ ∃ ks i, home (f x) = (key ++ o :: ks, i) := by
      intro x o h
      rw [mem_wlk] at h
      obtain ⟨h, ks, e1, _⟩ := h
      rw [List.append_assoc] at e1
      exact ⟨h, ks, _, e1⟩
    have s3 : ∀ {y : α}, y ∈ (if r = [] then slot f es key 2 else []) ++ slot f es key 3 → y ∈ es ∧ ∃ i, (i = 2 ∨ i = 3) ∧ home (f y) = (key ++ [], i) := by
      intro y h
      rw [List.mem_append] at h
      rcases h with h | h
      · split at h
        · exact ⟨(s2 h).1, 2, Or.inl rfl, (s2 h).2⟩
        · cases h
      · exact ⟨(s2 h).1, 3, Or.inr rfl, (s2 h).2⟩
    rw [wlk]
    refine app _ _ (ih _ s r rfl) (app _ _ (ih _ s r rfl) (app _ _ ?_ (ss _ _) ?_) ?_) ?_
    · split
      · exact ss _ _
      · exact List.Pairwise.nil
    · intro x hx y hy
      split at hx
      · exact go (s2 hx).1 (s2 hy).1 (s2 hx).2 (s2 hy).2 (lx_lt (by decide) _ _)
      · cases hx
    · intro x hx y hy
      obtain ⟨h1, ks, i, e1⟩ := w2 _ hx
      obtain ⟨h2, j, hj, e2⟩ := s3 hy
      refine go h1 h2 e1 e2 ?_
      rcases hj with rfl | rfl <;> exact lx_lt (by decide) _ _
    · intro x hx y hy
      obtain ⟨h1, ks, i, e1⟩ := w2 _ hx
      rw [List.mem_append] at hy
      rcases hy with hy | hy
      · obtain ⟨h2, ks', i', e2⟩ := w2 _ hy
        exact go h1 h2 e1 e2 (lx_lt (by simp) _ _)
      · obtain ⟨h2, j, hj, e2⟩ := s3 hy
        refine go h1 h2 e1 e2 ?_
        rcases hj with rfl | rfl <;> exact lx_lt (by simp) _ _
theorem wlk_sorted {es : List α} {R : α → α → Prop} (hs : es.Pairwise R) (hR : ∀ a b, R a b → cP (f a) (f b) ≤ 0) (hw : ∀ e ∈ es, wfS (f e)) (key : Key) (p : List ByteArray) : (wlk f es key p).Pairwise R := by
  induction p generalizing key with
  | nil => exact wlk_step f hs hR hw key [] (fun k s r h => by cases h)
  | cons s r ih => exact wlk_step f hs hR hw key (s :: r) (fun k s' r' h => by cases h; exact ih k)
/-- two sorted rows of the same are the same -/
theorem same_sorted {R : α → α → Prop} (hi : ∀ a b, R a b → ¬ R b a) : ∀ {l m : List α}, l.Pairwise R → m.Pairwise R → (∀ x, x ∈ l ↔ x ∈ m) → l = m := by
  intro l
  induction l with
  | nil =>
    intro m _ _ h
    symm
    rw [List.eq_nil_iff_forall_not_mem]
    intro x hx
    exact absurd ((h x).2 hx) (by simp)
  | cons a l ih =>
    intro m h1 h2 h
    cases m with
    | nil => exact absurd ((h a).1 (by simp)) (by simp)
    | cons b m =>
      rw [List.pairwise_cons] at h1 h2
      have ir : ∀ a, ¬ R a a := fun a h => hi a a h h
      have e : a = b := by
        have ha := (h a).1 (by simp)
        have hb := (h b).2 (by simp)
        rw [List.mem_cons] at ha hb
        rcases ha with ha | ha
        · exact ha
        · rcases hb with hb | hb
          · exact hb.symm
          · exact absurd (h1.1 b hb) (hi _ _ (h2.1 a ha))
      subst e
      rw [ih h1.2 h2.2 fun x => ?_]
      have := h x
      rw [List.mem_cons, List.mem_cons] at this
      constructor
      · intro hx
        rcases this.1 (Or.inr hx) with e | hm
        · subst e
          exact absurd (h1.1 _ hx) (ir _)
        · exact hm
      · intro hx
        rcases this.2 (Or.inr hx) with e | hm
        · subst e
          exact absurd (h2.1 _ hx) (ir _)
        · exact hm
/-- WHAT THE TREE TELLS: those of a sorted row that have the path, in the row's order -/
theorem wlk_is {es : List α} {R : α → α → Prop} (hs : es.Pairwise R) (hi : ∀ a b, R a b → ¬ R b a) (hR : ∀ a b, R a b → cP (f a) (f b) ≤ 0) (hw : ∀ e ∈ es, rgB (f e) = true) (p : List ByteArray) :
    wlk f es [] p = es.filter (fun e => mtB (f e) p) := by
  refine same_sorted hi (wlk_sorted f hs hR (fun e he => wf_rg (hw e he)) [] p) (hs.sublist List.filter_sublist) fun x => ?_
  rw [mem_wlk, List.mem_filter]
  refine and_congr_right fun hx => ?_
  rw [mtB, mtO, if_pos (hw x hx), adm_is (wf_rg (hw x hx))]
  constructor
  · rintro ⟨ks, e1, e2⟩
    rw [List.nil_append] at e1
    rw [show (home (f x)).1 = ks by rw [e1]]
    exact e2
  · intro h
    exact ⟨(home (f x)).1, rfl, h⟩
end
end Go.Proofs.YthigandmemifoaaGreatDoor
