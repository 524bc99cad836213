/-
  Put together: RfB.
-/
import Derived.Test.YthigandmemifoaaGreatDoorP16
import Derived.Test.YthigandmemifoaaGreatDoorP27
import Derived.Test.YthigandmemifoaaGreatDoorP30
import Derived.Test.YthigandmemifoaaGreatDoorP31
namespace Go.Proofs.YthigandmemifoaaGreatDoor
open Go.RowKit Go.PlainAid
set_option maxRecDepth 100000

/-- texts that a machine bears -/
def SzR (l : List Rc) : Prop := ∀ r ∈ l, r.n.size ≤ 9223372036854775807 ∧ ∀ g ∈ r.l, g.2.size ≤ 9223372036854775807
theorem fu_mem {l : List Rc} {i : Int} {g : Sg} (h : g ∈ fuL l i) : ∃ r ∈ l, g ∈ r.l := by
  rw [fuL, sgsOf, List.mem_flatMap] at h
  obtain ⟨k, hk, hg⟩ := h
  exact ⟨_, getD_mem l k (ch_lt l i k hk), hg⟩
theorem SzR.fu {l : List Rc} (h : SzR l) (i : Int) : ∀ g ∈ fuL l i, g.2.size ≤ 9223372036854775807 := by
  intro g hg
  obtain ⟨r, hr, hg⟩ := fu_mem hg
  exact (h r hr).2 g hg

/-- a record's own: its name, its parent, no name twice -/
def ok3 (l : List Rc) (j : Nat) : Prop := txB (l.getD j default).n = true ∧ nmI (l.take j) (l.getD j default).n = -1 ∧ -1 ≤ (l.getD j default).p ∧ (l.getD j default).p < (j : Int)
theorem ok_of3 {l : List Rc} {j : Nat} (h : ok3 l j) (hr : rgB (fuL l j) = true) : okR l j = true := by
  obtain ⟨h1, h2, h3⟩ := h
  rw [okR, h1, decide_eq_true h2, decide_eq_true h3, hr]
  rfl
theorem nm_some {l : List Rc} {s : ByteArray} {j : Nat} (hj : j < l.length) (h : (l.getD j default).n = s) : nmI l s ≠ -1 := by
  have : l.findIdx (fun r => decide (r.n = s)) < l.length := by
    rw [List.findIdx_lt_length]
    exact ⟨_, getD_mem l j hj, by rw [h]; simp⟩
  rw [nmI, if_pos this]
  omega
theorem take_at {l : List Rc} {k j : Nat} (h : j < k) : (l.take k).getD j default = l.getD j default := by
  simp only [List.getD]; rw [List.getElem?_take_of_lt h]

set_option maxHeartbeats 12800000 in
theorem refRight12 (v : Value) (l : List Rc) (w : World) (h : Rs w v l) (hf : Fit l) (hz : SzR l) :
    Calls Tryz.prog 50 #[v] w fun e w' => e = .returned (.bool (rtB l)) ∧ Below w.heap.size w w' := by
  have HS := Lib.hid h
  have HF := Lib.hid hf
  have HZ := Lib.hid hz
  obtain ⟨A, cap, rfl, hcap, _⟩ := h
  have hl20 := hf.1
  clear hf hz
  by_cases h1 : 1 ≤ l.length
  · by_cases h16 : l.length ≤ 16
    · have d1 : ¬ (l.length : Int) < 1 := by omega
      have d16 : ¬ (16 : Int) < (l.length : Int) := by omega
      go_enter Tryz.func50, Tryz.ntmps50
      go_wp2_with fail
      go_loopw [18] (fun i wr => ∃ (k : Nat), k ≤ l.length ∧ i = .int .i64 k ∧ Hid (∀ j, j < k → ok3 l j) ∧ Hid (Below w.heap.size w wr)) (fun i _ => l.length - (intOf i).toNat)
      case atStart => exact ⟨0, Nat.zero_le _, rfl, fun j hj => by omega, Below.refl _ _⟩
      case round =>
        obtain ⟨k, hk, rfl, HA, HW⟩ := hrel
        by_cases hlt : k < l.length
        · have d0 : (k : Int) < (l.length : Int) := by omega
          obtain ⟨x, o, rfl, hat, hgs⟩ := (HS.out.call HW.out).at k hlt
          obtain ⟨g0, g1, g2, g3, g4, g5, g6, g7⟩ := hat
          obtain ⟨A7, n7, c7, h7⟩ := hgs.shape
          have HQ := Lib.hid (@rt_not l k hlt)
          have HK : Hid (∀ {a b : Bool}, okR l k = okR l k) := fun {_ _} => rfl
          have HN7 := Lib.hid ((HZ.out _ (getD_mem l k hlt)).1)
          have E0 : Hid (okR l k = (txB (l.getD k default).n && (decide (nmI (l.take k) (l.getD k default).n = -1) && (decide (-1 ≤ (l.getD k default).p ∧ (l.getD k default).p < (k : Int)) && rgB (fuL l k))))) := rfl
          have O3 : Hid (txB (l.getD k default).n = true → nmI (l.take k) (l.getD k default).n = -1 → -1 ≤ (l.getD k default).p → (l.getD k default).p < (k : Int) → ok3 l k) := fun a b c d => ⟨a, b, c, d⟩
          clear hgs HK
          generalize l.getD k default = r at *
          rw [h7] at g2
          clear h7
          have HX := Lib.hid (blk_new wr (.cells #[.string r.n, .int .i64 r.p, .slice A7 n7 c7, .int .i64 r.c, .bool r.k, .int .i64 r.rk, .int .i64 r.rf, .string r.rt] 26 (0, 0)))
          have HY := Lib.hid (HW.out.alloc HW.out.size (.cells #[.string r.n, .int .i64 r.p, .slice A7 n7 c7, .int .i64 r.c, .bool r.k, .int .i64 r.rk, .int .i64 r.rf, .string r.rt] 26 (0, 0)))
          have d2 : (k : Int) ≤ (l.length : Int) := by omega
          have d3 : (k : Int) ≤ (cap : Int) := by omega
          have KS : Hid (∀ w' : World, Below (wr.alloc (.cells #[.string r.n, .int .i64 r.p, .slice A7 n7 c7, .int .i64 r.c, .bool r.k, .int .i64 r.rk, .int .i64 r.rf, .string r.rt] 26 (0, 0))).heap.size (wr.alloc (.cells #[.string r.n, .int .i64 r.p, .slice A7 n7 c7, .int .i64 r.c, .bool r.k, .int .i64 r.rk, .int .i64 r.rf, .string r.rt] 26 (0, 0))) w' → w'.cell? ⟨wr.heap.size, 0, none⟩ = some (.string r.n) ∧ w'.cell? ⟨wr.heap.size, 1, none⟩ = some (.int .i64 r.p)) := by
            intro w' hk
            have hb := blk_call HX.out hk
            exact ⟨by rw [blk_cell hb]; rfl, by rw [blk_cell hb]; rfl⟩
          by_cases hb1 : txB r.n = true
          · have HB1 := Lib.hid hb1
            clear hb1
            by_cases hp1 : r.p < -1
            · have E1 := Lib.hid (HQ.out (by rw [E0.out]; exact ok4 (Or.inr (Or.inr (Or.inl (decide_eq_false (by omega)))))))
              go_wp2_with (first | (go_at_call 71; refine (word35 r.n _ HN7.out).mono ?_; rintro e w1 ⟨rfl, hb1⟩; rw [HB1.out]; have H1 := Lib.hid (HY.out.trans (hb1.mono HY.out.size)); have H1b := Lib.hid hb1; have y1 := KS.out w1 hb1; obtain ⟨y1, y2⟩ := y1; clear hb1))
              rw [E1.out]
              go_ret
              exact ⟨rfl, H1.out⟩
            · by_cases hp2 : (k : Int) ≤ r.p
              · have E1 := Lib.hid (HQ.out (by rw [E0.out]; exact ok4 (Or.inr (Or.inr (Or.inl (decide_eq_false (by omega)))))))
                go_wp2_with (first | (go_at_call 71; refine (word35 r.n _ HN7.out).mono ?_; rintro e w1 ⟨rfl, hb1⟩; rw [HB1.out]; have H1 := Lib.hid (HY.out.trans (hb1.mono HY.out.size)); have H1b := Lib.hid hb1; have y1 := KS.out w1 hb1; obtain ⟨y1, y2⟩ := y1; clear hb1))
                rw [E1.out]
                go_ret
                exact ⟨rfl, H1.out⟩
              · go_wp2_with (first | (go_at_call 71; refine (word35 r.n _ HN7.out).mono ?_; rintro e w1 ⟨rfl, hb1⟩; rw [HB1.out]; have H1 := Lib.hid (HY.out.trans (hb1.mono HY.out.size)); have H1b := Lib.hid hb1; have y1 := KS.out w1 hb1; obtain ⟨y1, y2⟩ := y1; clear hb1))
                have HP1 : Hid (-1 ≤ r.p ∧ r.p < (k : Int)) := ⟨by omega, by omega⟩
                clear hp1 hp2 y2 g0 g1 g2 g3 g4 g5 g6 g7
                obtain ⟨wx, hwx⟩ : ∃ wx, wx = wr := ⟨_, rfl⟩
                subst hwx
                go_loopw [42] (fun i w2 => ∃ (m : Nat), m ≤ k ∧ i = .int .i64 m ∧ Hid (∀ j, j < m → (l.getD j default).n ≠ r.n) ∧ Hid (Below w1.heap.size w1 w2)) (fun i _ => k - (intOf i).toNat)
                case atStart => exact ⟨0, Nat.zero_le _, rfl, fun j hj => by omega, Below.refl _ _⟩
                case round =>
                  obtain ⟨m, hm, rfl, HM, HV⟩ := hrel
                  have HVW := Lib.hid (H1.out.trans (HV.out.mono H1.out.size))
                  by_cases hlt2 : m < k
                  · have hml : m < l.length := by omega
                    have d4 : (m : Int) < (k : Int) := by omega
                    obtain ⟨x2, o2, e2, hat, hgs⟩ := (HS.out.call HVW.out).at m hml
                    obtain ⟨rfl, rfl, -⟩ := Addr.mk.inj (Option.some.inj e2)
                    clear e2
                    obtain ⟨g0, g1, g2, g3, g4, g5, g6, g7⟩ := hat
                    obtain ⟨A8, n8, c8, h8⟩ := hgs.shape
                    have HN := Lib.hid (@nm_some (l.take k) r.n m (by rw [List.length_take]; omega))
                    rw [take_at hlt2] at HN
                    have HE : Hid ((l.getD m default).n ≠ r.n → ∀ j, j < m + 1 → (l.getD j default).n ≠ r.n) := fun hn j hj => by
                      by_cases e : j = m
                      · rw [e]; exact hn
                      · exact HM.out j (by omega)
                    clear hgs
                    generalize l.getD m default = r2 at *
                    rw [h8] at g2
                    clear h8
                    have z1 : ∀ o, (wr.alloc o).cell? ⟨wx.heap.size, 0, none⟩ = some (.string r.n) := fun o => (KS.out _ (H1b.out.trans ((HV.out.alloc HV.out.size o).mono H1b.out.size))).1
                    have HV2 := Lib.hid (HV.out.alloc HV.out.size (.cells #[.string r2.n, .int .i64 r2.p, .slice A8 n8 c8, .int .i64 r2.c, .bool r2.k, .int .i64 r2.rk, .int .i64 r2.rf, .string r2.rt] 26 (0, 0)))
                    have HVZ := Lib.hid (HVW.out.alloc HVW.out.size (.cells #[.string r2.n, .int .i64 r2.p, .slice A8 n8 c8, .int .i64 r2.c, .bool r2.k, .int .i64 r2.rk, .int .i64 r2.rf, .string r2.rt] 26 (0, 0)))
                    have eb := bs_eq r2.n r.n
                    by_cases hp : r2.n = r.n
                    · rw [decide_eq_true hp] at eb
                      have E1 := Lib.hid (HQ.out (by rw [E0.out]; exact ok4 (Or.inr (Or.inl (decide_eq_false (HN.out hp))))))
                      clear hp
                      go_wp2_with fail
                      rw [E1.out]
                      go_ret
                      exact ⟨rfl, HVZ.out⟩
                    · rw [decide_eq_false hp] at eb
                      have HPN : Hid (r2.n ≠ r.n) := hp
                      clear hp
                      go_wp2_with fail
                      go_roundw
                      case rel => exact ⟨m + 1, by omega, by go_num, HE.out HPN.out, HV2.out⟩
                      case measure => simp [intOf]; omega
                  · obtain rfl : m = k := by omega
                    have EN : Hid (nmI (l.take m) r.n = -1) := nm_none (fun j hj => by rw [List.length_take] at hj; rw [take_at (by omega)]; exact HM.out j (by omega))
                    have E3 := Lib.hid (O3.out HB1.out EN.out HP1.out.1 HP1.out.2)
                    go_wp2_with fail
                    go_roundw
                    case rel => exact ⟨m + 1, by omega, by go_num, fun j hj => (by rcases Nat.lt_succ_iff_lt_or_eq.1 hj with h | rfl; exact HA.out j h; exact E3.out), HVW.out⟩
                    case measure => simp [intOf]; omega
          · have hb1 : txB r.n = false := by simpa using hb1
            have HB1 := Lib.hid hb1
            have E1 := Lib.hid (HQ.out (by rw [E0.out]; exact ok4 (Or.inl hb1)))
            clear hb1
            go_wp2_with (first | (go_at_call 71; refine (word35 r.n _ HN7.out).mono ?_; rintro e w1 ⟨rfl, hb1⟩; rw [HB1.out]; have H1 := Lib.hid (HY.out.trans (hb1.mono HY.out.size)); have H1b := Lib.hid hb1; have y1 := KS.out w1 hb1; obtain ⟨y1, y2⟩ := y1; clear hb1))
            rw [E1.out]
            go_ret
            exact ⟨rfl, H1.out⟩
        · obtain rfl : k = l.length := by omega
          have HPO : Hid (ParOk l) := fun i hi => (HA.out i hi).2.2
          go_wp2_with fail
          obtain ⟨wx, hwx⟩ : ∃ wx, wx = wr := ⟨_, rfl⟩
          subst hwx
          go_loopw [55] (fun i w2 => ∃ (m : Nat), m ≤ l.length ∧ i = .int .i64 m ∧ Hid (∀ j : Nat, j < m → rgB (fuL l (j : Nat)) = true) ∧ Hid (Below w.heap.size w w2)) (fun i _ => l.length - (intOf i).toNat)
          case atStart => exact ⟨0, Nat.zero_le _, rfl, fun j hj => by omega, HW.out⟩
          case round =>
            obtain ⟨m, hm, rfl, HM, HV⟩ := hrel
            by_cases hlt2 : m < l.length
            · have d4 : (m : Int) < (l.length : Int) := by omega
              have HZF := Lib.hid (HZ.out.fu (m : Nat))
              have HQ := Lib.hid (@rt_not l m hlt2)
              have E0 : Hid (okR l m = (txB (l.getD m default).n && (decide (nmI (l.take m) (l.getD m default).n = -1) && (decide (-1 ≤ (l.getD m default).p ∧ (l.getD m default).p < (m : Int)) && rgB (fuL l m))))) := rfl
              have HFU := Lib.hid (refFull22 _ l m wr (HS.out.call HV.out) HF.out HPO.out hlt2 h16)
              by_cases hrg : rgB (fuL l (m : Nat)) = true
              · have HRG := Lib.hid hrg
                clear hrg
                go_wp2_with (first
                  | (go_at_call 51; refine HFU.out.mono ?_; rintro e w2 ⟨u2, rfl, h2⟩; have H2 := Lib.hid h2; obtain ⟨A8, n8, c8, e8⟩ := h2.gs.shape; subst e8; clear h2)
                  | (go_at_call 72; refine (rightPat17 _ (fuL l m) _ H2.out.gs HZF.out).mono ?_; rintro e w3 ⟨rfl, h3⟩; rw [HRG.out]; have H3 := Lib.hid h3; clear h3))
                go_roundw
                case rel => exact ⟨m + 1, by omega, by go_num, fun j hj => (by rcases Nat.lt_succ_iff_lt_or_eq.1 hj with h | rfl; exact HM.out j h; exact HRG.out), HV.out.trans ((H2.out.2.1.trans (H3.out.mono H2.out.2.1.size)).mono HV.out.size)⟩
                case measure => simp [intOf]; omega
              · have hrg : rgB (fuL l m) = false := by simpa using hrg
                have HRG := Lib.hid hrg
                have E1 := Lib.hid (HQ.out (by rw [E0.out]; exact ok4 (Or.inr (Or.inr (Or.inr hrg)))))
                clear hrg
                go_wp2_with (first
                  | (go_at_call 51; refine HFU.out.mono ?_; rintro e w2 ⟨u2, rfl, h2⟩; have H2 := Lib.hid h2; obtain ⟨A8, n8, c8, e8⟩ := h2.gs.shape; subst e8; clear h2)
                  | (go_at_call 72; refine (rightPat17 _ (fuL l m) _ H2.out.gs HZF.out).mono ?_; rintro e w3 ⟨rfl, h3⟩; rw [HRG.out]; have H3 := Lib.hid h3; clear h3))
                rw [E1.out]
                go_ret
                exact ⟨rfl, HV.out.trans ((H2.out.2.1.trans (H3.out.mono H2.out.2.1.size)).mono HV.out.size)⟩
            · obtain rfl : m = l.length := by omega
              have E1 := Lib.hid (rt_yes h1 h16 fun j hj => ok_of3 (HA.out j hj) (HM.out j hj))
              go_wp2
              rw [E1.out]
              go_ret
              exact ⟨rfl, HV.out⟩
    · have d1 : ¬ (l.length : Int) < 1 := by omega
      have d16 : (16 : Int) < (l.length : Int) := by omega
      have e : rtB l = false := by rw [rtB, decide_eq_false (fun h => h16 h.2)]; rfl
      rw [e]
      go_enter Tryz.func50, Tryz.ntmps50
      go_wp2
      go_ret
      exact ⟨rfl, Below.refl _ _⟩
  · have d1 : (l.length : Int) < 1 := by omega
    have e : rtB l = false := by rw [rtB, decide_eq_false (fun h => h1 h.1)]; rfl
    rw [e]
    go_enter Tryz.func50, Tryz.ntmps50
    go_wp2
    go_ret
    exact ⟨rfl, Below.refl _ _⟩

/-- those that match, in their order: there are such -/
theorem al_ex (ls : List (List Sg)) (path : List ByteArray) : ∀ k : Nat, ∃ al : List Nat, al.Pairwise (fun i j => cW ls i j < 0) ∧ ∀ i, i ∈ al ↔ i < k ∧ mtB (ls.getD i default) path = true := by
  intro k
  induction k with
  | zero => exact ⟨[], List.Pairwise.nil, fun i => by simp⟩
  | succ k ih =>
    obtain ⟨al, h1, h2⟩ := ih
    by_cases hm : mtB (ls.getD k default) path = true
    · refine ⟨al.filter (fun i => decide (cW ls i k < 0)) ++ k :: al.filter (fun i => !decide (cW ls i k < 0)), ?_, fun i => ?_⟩
      · have hk : ∀ b ∈ al.filter (fun i => !decide (cW ls i k < 0)), cW ls k b < 0 := by
          intro b hb
          rw [List.mem_filter] at hb
          have hb1 := ((h2 b).1 hb.1).1
          have hb2 : ¬ cW ls b k < 0 := by simpa using hb.2
          have hz := ((tcW ls).zero b k).1
          have ha := (tcW ls).anti b k
          have hne : cW ls b k ≠ 0 := fun e => by have := hz e; omega
          omega
        rw [List.pairwise_append]
        refine ⟨h1.filter _, List.pairwise_cons.2 ⟨hk, h1.filter _⟩, fun a ha b hb => ?_⟩
        rw [List.mem_filter] at ha
        have ha2 : cW ls a k < 0 := by simpa using ha.2
        rw [List.mem_cons] at hb
        rcases hb with rfl | hb
        · exact ha2
        · have := hk b hb
          exact (tcW ls).lt_of_lt_le ha2 (by omega)
      · rw [List.mem_append, List.mem_cons, List.mem_filter, List.mem_filter]
        constructor
        · rintro (⟨h, _⟩ | rfl | ⟨h, _⟩)
          · have := (h2 i).1 h; exact ⟨by omega, this.2⟩
          · exact ⟨by omega, hm⟩
          · have := (h2 i).1 h; exact ⟨by omega, this.2⟩
        · rintro ⟨h3, h4⟩
          by_cases e : i = k
          · exact Or.inr (Or.inl e)
          · have h5 := (h2 i).2 ⟨by omega, h4⟩
            by_cases e2 : cW ls i k < 0
            · exact Or.inl ⟨h5, by simpa using e2⟩
            · exact Or.inr (Or.inr ⟨h5, by simpa using e2⟩)
    · refine ⟨al, h1, fun i => ?_⟩
      rw [h2]
      constructor
      · rintro ⟨h3, h4⟩; exact ⟨by omega, h4⟩
      · rintro ⟨h3, h4⟩
        refine ⟨?_, h4⟩
        by_cases e : i = k
        · subst e; exact absurd h4 hm
        · omega

theorem rt_par {l : List Rc} (h : rtB l = true) : ParOk l := by
  intro i hi
  rw [rtB, Bool.and_eq_true, List.all_eq_true] at h
  have := h.2 i (by simpa using hi)
  rw [okR, Bool.and_eq_true, Bool.and_eq_true, Bool.and_eq_true] at this
  exact of_decide_eq_true this.2.2.1
theorem rt_len {l : List Rc} (h : rtB l = true) : 1 ≤ l.length ∧ l.length ≤ 16 := by
  rw [rtB, Bool.and_eq_true] at h
  exact of_decide_eq_true h.1
theorem nm_lt (l : List Rc) (s : ByteArray) : nmI l s = -1 ∨ ∃ k : Nat, nmI l s = (k : Int) ∧ k < l.length := by
  rw [nmI]
  split
  · exact Or.inr ⟨_, rfl, by assumption⟩
  · exact Or.inl rfl
theorem fus_few {l : List Rc} (hf : Fit l) (k : Nat) : Few (fusL l k) := by
  intro x hx
  rw [fusL, List.mem_map] at hx
  obtain ⟨i, _, rfl⟩ := hx
  have := fu_len hf (i : Nat)
  omega
theorem SzR.fus {l : List Rc} (h : SzR l) (k : Nat) : ∀ x ∈ fusL l k, ∀ g ∈ x, g.2.size ≤ 9223372036854775807 := by
  intro x hx
  rw [fusL, List.mem_map] at hx
  obtain ⟨i, _, rfl⟩ := hx
  exact h.fu _

set_option maxHeartbeats 6400000 in
theorem refResolve10_no (v : Value) (l : List Rc) (A2 : Option Addr) (n2 c2 : Nat) (w : World) (h : Rs w v l) (hf : Fit l) (hz : SzR l) (hr : rtB l = false) :
    Calls Tryz.prog 30 #[v, .slice A2 n2 c2] w fun e w' => e = .returned (.tuple #[.int .i64 (-1), .slice none 0 0, .bool false]) ∧ Below w.heap.size w w' := by
  have HR := Lib.hid (refRight12 v l w h hf hz)
  rw [hr] at HR
  obtain ⟨A, n, c, rfl⟩ := h.shape
  clear h
  go_enter Tryz.func30, Tryz.ntmps30
  go_wp2_with (first | (go_at_call 50; refine HR.out.mono ?_; rintro e w1 ⟨rfl, h1⟩; have H1 := Lib.hid h1; clear h1))
  go_ret3
  exact ⟨rfl, H1.out⟩

set_option maxHeartbeats 6400000 in
theorem refResolve10_yes (v : Value) (l : List Rc) (pv : Value) (path : List ByteArray) (w : World) (h : Rs w v l) (hf : Fit l) (hz : SzR l) (hr : rtB l = true)
    (hp : Ss w pv path) (hsz : ∀ s ∈ path, s.size ≤ 100000000) (hpl : path.length ≤ 1000) {al : List Nat} (ha : AllN (fusL l l.length) path al) :
    Calls Tryz.prog 30 #[v, pv] w fun e w' => ∃ u, e = .returned (.tuple #[.int .i64 (aN al), u, .bool (!al.isEmpty)]) ∧ Ps w' u (aL (fusL l l.length) path al) ∧ Below w.heap.size w w' := by
  have HS := Lib.hid h
  have HF := Lib.hid hf
  have HZR := Lib.hid hz
  have HP := Lib.hid hp
  have HZ := Lib.hid hsz
  have HA := Lib.hid ha
  have HPO := Lib.hid (rt_par hr)
  have hl16 := (rt_len hr).2
  have HR := Lib.hid (refRight12 v l w h hf hz)
  rw [hr] at HR
  obtain ⟨A, cap, rfl⟩ := h.len
  obtain ⟨A2, n2, c2, rfl⟩ := hp.shape
  clear h hf hp hsz ha hz
  go_enter Tryz.func30, Tryz.ntmps30
  go_wp2_with (first
    | (go_at_call 50; refine HR.out.mono ?_; rintro e w1 ⟨rfl, h1⟩; have H1 := Lib.hid h1; clear h1))
  go_loopw [7, 14] (fun s7 s17 wr => ∃ (k : Nat), k ≤ l.length ∧ s17 = .int .i64 k ∧ Hid (OwnL w.heap.size w s7 (fusL l k) wr)) (fun _ s17 _ => l.length - (intOf s17).toNat)
  case atStart => exact ⟨0, Nat.zero_le _, rfl, nilL _ _ _ H1.out H1.out.size⟩
  case round =>
    obtain ⟨k, hk, rfl, HO⟩ := hrel
    have HB := Lib.hid HO.out.below
    obtain ⟨A6, n6, c6, h6⟩ := HO.out.shape
    subst h6
    by_cases hlt : k < l.length
    · have d0 : (k : Int) < (l.length : Int) := by omega
      go_wp2_with (first
        | (go_at_call 51; refine (refFull22 _ l k _ (HS.out.call HB.out) HF.out HPO.out hlt hl16).mono ?_; rintro e w3 ⟨u3, rfl, h3⟩; have H3 := Lib.hid h3; obtain ⟨A8, n8, c8, e8⟩ := h3.gs.shape; subst e8; clear h3)
        | (at_builtin; refine wpList_appL (w := w3.alloc (.cells #[.slice A8 n8 c8] 24 (0, 0))) rfl (.tmp 17) (.tmp 21) rfl rfl ((HO.out.call H3.out.2.1).alloc (.cells #[.slice A8 n8 c8] 24 (0, 0))) (by rw [fus_len]; omega) _ 1 1 [fuL l (k : Nat)] rfl rfl (by omega) (by omega) (fun e => by cases e) (one_src (blk_new w3 (.cells #[.slice A8 n8 c8] 24 (0, 0))) (H3.out.gt.call ((Below.refl _ _).alloc (Nat.le_refl _) _))) ?_; intro v9 w9 h9 hg9; have H9 := Lib.hid h9; obtain ⟨A9, n9, c9, e9⟩ := h9.shape; subst e9; clear h9 hg9))
      go_roundw
      case rel =>
        refine ⟨k + 1, by omega, by go_num, ?_⟩
        rw [fus_next]
        exact H9.out
      case measure => simp [intOf]; omega
    · obtain rfl : k = l.length := by omega
      go_wp2_with (first
        | (go_at_call 52; refine (refFind14 _ _ _ path _ HO.out.gss (HP.out.call HB.out) (by rw [fus_len]; omega) (fus_few HF.out _) (HZR.out.fus _) HZ.out hpl HA.out).mono ?_; rintro e w4 ⟨v4, rfl, h4, hb4⟩; have H4 := Lib.hid h4; have B4 := Lib.hid (HB.out.trans (hb4.mono HB.out.size)); clear h4 hb4))
      go_ret3
      exact ⟨_, rfl, H4.out, B4.out⟩

set_option maxHeartbeats 6400000 in
theorem refReverse17 (v : Value) (l : List Rc) (s : ByteArray) (pv : Value) (q : List Pr) (w : World) (h : Rs w v l) (hf : Fit l) (hzr : SzR l) (hq : Ps w pv q) (hz : q.length ≤ 1000000000) (hs : ∀ p ∈ q, p.2.size ≤ 100000000) :
    Calls Tryz.prog 33 #[v, .string s, pv] w fun e w' => ∃ u, e = .returned (.tuple #[u, .bool (rvB l s q)]) ∧ Ss w' u (rvL l s q) ∧ Below w.heap.size w w' := by
  have HS := Lib.hid h
  have HF := Lib.hid hf
  have HQ := Lib.hid hq
  have HZ := Lib.hid hs
  have HZR := Lib.hid hzr
  have HN := Lib.hid (refNamed15 v l s w h (by have := hf.1; omega))
  have eB : rvB l s q = (decide (nmI l s ≠ -1) && (rtB l && bdB (fuL l (nmI l s)) q)) := rfl
  have eL : rvL l s q = (if nmI l s = -1 ∨ rtB l = false then [] else bdL (fuL l (nmI l s)) q) := rfl
  rw [eB, eL]
  clear eB eL
  obtain ⟨A, n, c, rfl⟩ := h.shape
  obtain ⟨A2, n2, c2, rfl⟩ := hq.shape
  clear h hf hq hs hzr
  have hnl := nm_lt l s
  generalize nmI l s = nm at *
  rcases hnl with hn | ⟨nk, hn, hnk⟩
  · subst hn
    rw [if_pos (Or.inl rfl), decide_eq_false (fun h => h rfl), Bool.false_and]
    go_enter Tryz.func33, Tryz.ntmps33
    go_wp2_with (first | (go_at_call 54; refine HN.out.mono ?_; rintro e w1 ⟨rfl, h1⟩; have H1 := Lib.hid h1; clear h1))
    go_ret2
    exact ⟨_, rfl, ss_nil _, H1.out⟩
  · subst hn
    have hne : ((nk : Nat) : Int) ≠ -1 := by omega
    rw [decide_eq_true hne, Bool.true_and]
    have c0 : ¬ (nk : Int) < 0 := by omega
    by_cases hr : rtB l = true
    · rw [if_neg (by rw [hr]; simp [hne]), hr, Bool.true_and]
      have HR := Lib.hid hr
      have HPO := Lib.hid (rt_par hr)
      have hl16 := (rt_len hr).2
      clear hr hne
      go_enter Tryz.func33, Tryz.ntmps33
      go_wp2_with (first
        | (go_at_call 54; refine HN.out.mono ?_; rintro e w1 ⟨rfl, h1⟩; have H1 := Lib.hid h1; clear h1)
        | (go_at_call 50; refine (refRight12 _ l _ (HS.out.call H1.out) HF.out HZR.out).mono ?_; rintro e w2 ⟨rfl, h2⟩; rw [HR.out]; have H2 := Lib.hid (H1.out.trans (h2.mono H1.out.size)); clear h2)
        | (go_at_call 51; refine (refFull22 _ l nk _ (HS.out.call H2.out) HF.out HPO.out hnk hl16).mono ?_; rintro e w3 ⟨u3, rfl, h3⟩; have G3 := Lib.hid h3.gs; have H3 := Lib.hid (H2.out.trans (h3.2.1.mono H2.out.size)); obtain ⟨A8, n8, c8, e8⟩ := h3.gs.shape; subst e8; clear h3)
        | (go_at_call 55; refine (build15 _ _ (fuL l nk) q _ G3.out (HQ.out.call H3.out) hz HZ.out (HZR.out.fu _)).mono ?_; rintro e w4 ⟨v4, rfl, h4, hb4⟩; have S4 := Lib.hid h4; have H4 := Lib.hid (H3.out.trans (hb4.mono H3.out.size)); clear h4 hb4))
      go_ret2
      exact ⟨_, rfl, S4.out, H4.out⟩
    · have hr : rtB l = false := by simpa using hr
      rw [if_pos (Or.inr hr), hr, Bool.false_and]
      have HR := Lib.hid hr
      clear hr hne
      go_enter Tryz.func33, Tryz.ntmps33
      go_wp2_with (first
        | (go_at_call 54; refine HN.out.mono ?_; rintro e w1 ⟨rfl, h1⟩; have H1 := Lib.hid h1; clear h1)
        | (go_at_call 50; refine (refRight12 _ l _ (HS.out.call H1.out) HF.out HZR.out).mono ?_; rintro e w2 ⟨rfl, h2⟩; rw [HR.out]; have H2 := Lib.hid (H1.out.trans (h2.mono H1.out.size)); clear h2))
      go_ret2
      exact ⟨_, rfl, ss_nil _, H2.out⟩
end Go.Proofs.YthigandmemifoaaGreatDoor
