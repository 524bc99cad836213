/-
  RuleTells, walked.
-/
import Derived.Test.YtfmjlgplcepomaaRuns
namespace Go.Proofs.Ytfmjlgplcepomaa
open Go.RowKit Go.PlainAid
set_option maxRecDepth 100000

theorem step_catR {ops : Array Oper} {o : Oper} {a : Act} {K : Act → World → Prop} {Q : Exit → Act → World → Prop} {F : Prop} (w : World) (hw : Region.wanted o (yielded ops a.tmps) = true) (s x : Operand)
    (ho : o.op = .call { callee := .builtin .append, args := #[s, x], argTypes := #[27, 27] })
    (B : Nat) (w0 : World) (v : Value) (xs : List Rl) (hs : a.eval s = v) (hown : OwnR B w0 v xs w) (hn : xs.length ≤ 1000)
    (xv : Value) (m : Nat) (g : Nat → Rl) (hx : a.eval x = xv) (hm1 : m ≤ 10) (hb : Rs w xv m g)
    (h : ∀ v' w', OwnR B w0 v' (xs ++ (List.range m).map g) w' → w.grownBy w' v.ownBlock → K (a.put o.dst v') w') :
    if Region.wanted o (yielded ops a.tmps) = true then Oper.wp Try.prog o a w K Q else F := by
  rw [if_pos hw]
  exact wp_catR w s x ho B w0 v xs hs hown hn xv m g hx hm1 hb h

/-- one rule further -/
theorem AllP.new {k : Nat} {sy : Nat → Int} {tx : Nat → ByteArray} {a : Int} {x : ByteArray} {p : Int} (h : AllP k sy tx a x p) (hp : p < 0) (hs : sy k ≠ 0) : AllP (k + 1) sy tx (sy k) (tx k) (k : Int) := by
  rcases h with ⟨rfl, rfl, rfl, h⟩ | ⟨i, hi, rfl, _⟩
  · exact Or.inr ⟨k, by omega, rfl, rfl, rfl, hs, h⟩
  · omega
theorem AllP.old {k : Nat} {sy : Nat → Int} {tx : Nat → ByteArray} {a : Int} {x : ByteArray} {p : Int} (h : AllP k sy tx a x p) (hp : p < 0 → sy k = 0) : AllP (k + 1) sy tx a x p := by
  rcases h with ⟨rfl, rfl, rfl, h⟩ | ⟨i, hi, h⟩
  · refine Or.inl ⟨rfl, rfl, rfl, fun i hi => ?_⟩
    rcases Nat.lt_succ_iff_lt_or_eq.1 hi with h1 | h1
    · exact h i h1
    · rw [h1]
      exact hp (by omega)
  · exact Or.inr ⟨i, by omega, h⟩
theorem OwnR.drew {B : Nat} {w0 : World} {v : Value} {l : List Rl} {w : World} (h : OwnR B w0 v l w) : OwnR B w0 v l w.drew := ⟨h.1.drew, h.2.1.drew, h.2.2⟩
theorem Rs.drew {w : World} {v : Value} {n : Nat} {g : Nat → Rl} (h : Rs w v n g) : Rs w.drew v n g := h.call (Below.refl _ w).drew
set_option maxHeartbeats 12800000 in
theorem ruleTells4 (v u : Value) (n m : Nat) (gr : Nat → Rl) (g : Nat → Bool) (w : World) (h : Rs w v n gr) (h' : Bs w u m g) :
    Calls Try.prog 4 #[v, u] w fun e w' => e = .returned (.bool true) ∧ Below w.heap.size w w' := by
  obtain ⟨A, c, rfl⟩ := h.shape
  obtain ⟨D, d, rfl⟩ := h'.shape
  have hcap := h.cap
  have hcap' := h'.cap
  have E1 := Lib.hid (empR w.heap.size w w (Below.refl _ _) (Nat.le_refl _))
  have hm1 : (if (8 : Int) < (n : Int) then 8 else (n : Int)).toNat ≤ n := by split <;> omega
  have hm2 : (if (8 : Int) < (n : Int) then 8 else (n : Int)).toNat ≤ 10 := by split <;> omega
  have hm3 : 0 ≤ (if (8 : Int) < (n : Int) then 8 else (n : Int)) := by split <;> omega
  have hm4 : (if (8 : Int) < (n : Int) then 8 else (n : Int)) ≤ (c : Int) := by split <;> omega
  have hq1 : (if (10 : Int) < (m : Int) then 10 else (m : Int)).toNat ≤ m := by split <;> omega
  have hq3 : 0 ≤ (if (10 : Int) < (m : Int) then 10 else (m : Int)) := by split <;> omega
  have hq4 : (if (10 : Int) < (m : Int) then 10 else (m : Int)) ≤ (d : Int) := by split <;> omega
  have HR1 := Lib.hid ((h.call ((Below.refl _ w).alloc (Nat.le_refl _) (.cells #[] 23 (0, 0)))).take _ hm1)
  have HM2 := Lib.hid hm2
  have HF := Lib.hid h'
  have HQ1 := Lib.hid hq1
  clear hm1 hm2 h h' hq1
  go_enter Try.func4, Try.ntmps4
  go_upto_region 1 with fail
  have E1d := Lib.hid E1.out.drew
  have HR1d := Lib.hid HR1.out.drew
  clear E1 HR1
  go_cut [5, 6] (fun s5 s6 wz => ∃ (R : List Rl) (A1 : Option Addr) (c1 q : Nat), s5 = .slice A1 R.length c1 ∧ s6 = .slice D q d ∧ q ≤ m ∧ R.length ≤ 10 ∧ Hid (OwnR w.heap.size w (.slice A1 R.length c1) R wz))
  case first =>
    go_region_held3 (fun _ => True) (trivial) (first | (refine step_catR _ (by rfl) (.tmp 20) (.tmp 25) rfl w.heap.size w _ [] rfl E1d.out (by simp) _ _ gr rfl HM2.out HR1d.out ?_; intro v1 w1 h1 hg1; rw [List.nil_append] at h1; have hR10 : ((List.range (if (8 : Int) < (n : Int) then 8 else (n : Int)).toNat).map gr).length ≤ 10 := (by simpa using HM2.out); generalize (List.range (if (8 : Int) < (n : Int) then 8 else (n : Int)).toNat).map gr = R at *; have O1 := Lib.hid h1; obtain ⟨A1, c1, e1⟩ := h1.rs.shape; subst e1; clear hg1 h1))
    all_goals
      generalize (if (8 : Int) < (n : Int) then 8 else (n : Int)) = M1 at *
      generalize (if (10 : Int) < (m : Int) then 10 else (m : Int)) = M2 at *
      go_wp2_with fail
      go_meet
      exact ⟨R, A1, c1, _, rfl, rfl, HQ1.out, hR10, O1.out⟩
  case rest =>
    obtain ⟨R, A1, c1, q, rfl, rfl, hqm, hR10, hO⟩ := hcut
    have HB1 := Lib.hid hO.out.2.1
    have HR1 := Lib.hid hO.out.rs
    obtain ⟨gR, hgR⟩ : ∃ gR : Nat → Rl, gR = fun i => R.getD i default := ⟨_, rfl⟩
    rw [← hgR] at HR1
    clear hgR
    generalize wc = W0 at *
    have HF1 := Lib.hid ((HF.out.take q hqm).call HB1.out)
    clear E1d HR1d hO HF hm3 hm4 hcap hcap' HM2 hq3 hq4 HQ1 hqm
    go_wp2_with fail
    go_loopw [7, 8, 9, 34] (fun s7 s8 s9 s34 wr => ∃ (k : Nat) (a : Int) (x : ByteArray) (p : Int), k ≤ R.length ∧ s34 = .int .i64 k ∧ s7 = .int .i64 a ∧ s8 = .string x ∧ s9 = .int .i64 p ∧ Hid (AllP k (syF gR q g) (txF gR q g) a x p) ∧ Hid (Below W0.heap.size W0 wr)) (fun _ _ _ s34 _ => R.length - (intOf s34).toNat)
    case atStart => exact ⟨0, 0, ⟨#[]⟩, -1, Nat.zero_le _, rfl, rfl, rfl, rfl, Or.inl ⟨rfl, rfl, rfl, fun i hi => by omega⟩, Below.refl _ _⟩
    case round =>
      obtain ⟨k, a, x, p, hk, rfl, rfl, rfl, rfl, HP, HB⟩ := hrel
      by_cases hlt : k < R.length
      · have d0 : (k : Int) < (R.length : Int) := by omega
        obtain ⟨A', c', e', _, _, h4⟩ := HR1.out.call HB.out
        cases e'
        obtain ⟨b, o, rfl, hat⟩ := h4 k hlt
        have E : Hid (syF gR q g k = sayI (gR k).k (stB q g (gR k).f) ∧ txF gR q g k = toT (gR k).k (stB q g (gR k).f) (gR k).t) := ⟨rfl, rfl⟩
        clear h4
        generalize gR k = r at *
        obtain ⟨g0, g1, g2⟩ := hat
        have B1 := Lib.hid (HB.out.alloc HB.out.size (.cells #[.int .i64 r.k, .int .i64 r.f, .string r.t] 23 (0, 0)))
        have X1 := Lib.hid (blk_new wr (.cells #[.int .i64 r.k, .int .i64 r.f, .string r.t] 23 (0, 0)))
        have F1 := Lib.hid (HF1.out.call B1.out)
        go_upto_region 6 with fail
        generalize wr.alloc (.cells #[.int .i64 r.k, .int .i64 r.f, .string r.t] 23 (0, 0)) = w1 at *
        have c0 : w1.cell? ⟨wr.heap.size, 0, none⟩ = some (.int .i64 r.k) := blk_cell X1.out 0
        have c1 : w1.cell? ⟨wr.heap.size, 1, none⟩ = some (.int .i64 r.f) := blk_cell X1.out 1
        have c2 : w1.cell? ⟨wr.heap.size, 2, none⟩ = some (.string r.t) := blk_cell X1.out 2
        have HA := Lib.hid (ask7 r _ q g w1 F1.out)
        obtain ⟨he1, he2⟩ := E.out
        rw [AskPost_eq, ← he1, ← he2] at HA
        clear he1 he2 g0 g1 g2
        go_upto_region 7 with (first | (go_at_call 7; refine HA.out.mono ?_; rintro e w2 ⟨rfl, hb2⟩; have B2 := Lib.hid (B1.out.trans (hb2.mono B1.out.size)); have X2 := Lib.hid (blk_call X1.out hb2); have F2 := Lib.hid (F1.out.call hb2); clear hb2))
        clear HA c0 c1 c2 B1 X1 F1
        have c0 : w2.cell? ⟨wr.heap.size, 0, none⟩ = some (.int .i64 r.k) := blk_cell X2.out 0
        have c1 : w2.cell? ⟨wr.heap.size, 1, none⟩ = some (.int .i64 r.f) := blk_cell X2.out 1
        have c2 : w2.cell? ⟨wr.heap.size, 2, none⟩ = some (.string r.t) := blk_cell X2.out 2
        have HA := Lib.hid (ask8 r _ q g w2 F2.out)
        obtain ⟨he1, he2⟩ := E.out
        rw [AskPost_eq, ← he1, ← he2] at HA
        clear he1 he2 E
        obtain ⟨sy, hsy⟩ : ∃ sy, syF gR q g k = sy := ⟨_, rfl⟩
        obtain ⟨tx, htx⟩ : ∃ tx, txF gR q g k = tx := ⟨_, rfl⟩
        rw [hsy, htx] at HA ⊢
        have HSY := Lib.hid hsy
        have HTX := Lib.hid htx
        clear hsy htx
        go_upto_region 10 with (first | (go_at_call 8; refine HA.out.mono ?_; rintro e w3 ⟨rfl, hb3⟩; have B3 := Lib.hid (B2.out.trans (hb3.mono B2.out.size)); have X3 := Lib.hid (blk_call X2.out hb3); clear hb3))
        clear HA c0 c1 c2 B2 X2 F2
        go_cut [64] (fun s64 wz => ∃ T, s64 = .bool T ∧ Hid (T = (decide (p < 0) && (sy != 0))) ∧ wz = w3)
        case first =>
          by_cases hp : p < 0
          · go_wp2_with fail
            go_meet
            exact ⟨sy != 0, rfl, by simp [Hid, hp], rfl⟩
          · go_wp2_with fail
            go_meet
            exact ⟨false, rfl, by have h9 : ¬ p < 0 := (by omega); simp [Hid, h9], rfl⟩
        case rest =>
          obtain ⟨T, rfl, hT, hwc⟩ := hcut
          subst hwc
          go_upto_if 64 with fail
          go_cut [7, 8, 9] (fun s7 s8 s9 wz => ∃ (a' : Int) (x' : ByteArray) (p' : Int), s7 = .int .i64 a' ∧ s8 = .string x' ∧ s9 = .int .i64 p' ∧ Hid (AllP (k + 1) (syF gR q g) (txF gR q g) a' x' p') ∧ wz = wc)
          case first =>
            cases T
            · have HN : Hid (AllP (k + 1) (syF gR q g) (txF gR q g) a x p) := by
                refine HP.out.old (fun hp => ?_)
                have h9 := hT.out
                rw [HSY.out]
                by_cases hs : sy = 0
                · exact hs
                · have h8 : (sy != 0) = true := by simpa using hs
                  rw [h8] at h9
                  simp [hp] at h9
              go_wp2_with fail
              go_meet
              exact ⟨a, x, p, rfl, rfl, rfl, HN.out, rfl⟩
            · have HN : Hid (AllP (k + 1) (syF gR q g) (txF gR q g) sy tx (k : Int)) := by
                have h9 := hT.out
                rw [eq_comm, Bool.and_eq_true, decide_eq_true_iff] at h9
                have h8 := HP.out.new h9.1 (by rw [HSY.out]; simpa using h9.2)
                rw [HSY.out, HTX.out] at h8
                exact h8
              go_wp2_with fail
              go_meet
              exact ⟨sy, tx, (k : Int), rfl, rfl, rfl, HN.out, rfl⟩
          case rest =>
            obtain ⟨a', x', p', rfl, rfl, rfl, HN, hwc⟩ := hcut
            subst hwc
            clear hT HP HSY HTX
            have c0 : wc.cell? ⟨wr.heap.size, 0, none⟩ = some (.int .i64 r.k) := blk_cell X3.out 0
            have c1 : wc.cell? ⟨wr.heap.size, 1, none⟩ = some (.int .i64 r.f) := blk_cell X3.out 1
            have c2 : wc.cell? ⟨wr.heap.size, 2, none⟩ = some (.string r.t) := blk_cell X3.out 2
            go_upto_region 12 with fail
            go_cut [16] (fun s16 wz => s16 = .bool (rtB r) ∧ wz = wc)
            case first =>
              by_cases k0 : 0 ≤ r.k
              · by_cases k4 : r.k ≤ 4
                · by_cases f0 : 0 ≤ r.f
                  · by_cases f8 : r.f < 8
                    · cases ht : r.t.toList.isEmpty
                      · by_cases k3 : r.k = 3
                        · have q3 : (r.k == 3) = true := by simpa using k3
                          have E : Hid (rtB r = true) := by unfold Hid; simp [rtB, f0, f8, k3]
                          go_wp2_with fail
                          go_meet
                          exact ⟨by first | rw [E.out] | (rw [E.out]; simp), rfl⟩
                        · have q3 : (r.k == 3) = false := by simpa using k3
                          by_cases k44 : r.k = 4
                          · have q4 : (r.k == 4) = true := by simpa using k44
                            have E : Hid (rtB r = true) := by unfold Hid; simp [rtB, f0, f8, k44]
                            go_wp2_with fail
                            go_meet
                            exact ⟨by first | rw [E.out] | (rw [E.out]; simp), rfl⟩
                          · have q4 : (r.k == 4) = false := by simpa using k44
                            have E : Hid (rtB r = false) := by unfold Hid; simp [rtB, ht, k3, k44]
                            go_wp2_with fail
                            go_meet
                            exact ⟨by first | rw [E.out] | (rw [E.out]; simp), rfl⟩
                      · skip
                        have E : Hid (rtB r = true) := by unfold Hid; simp [rtB, k0, k4, f0, f8, ht]
                        go_wp2_with fail
                        go_meet
                        exact ⟨by first | rw [E.out] | (rw [E.out]; simp), rfl⟩
                    · skip
                      have E : Hid (rtB r = false) := by unfold Hid; simp [rtB, f8]
                      go_wp2_with fail
                      go_meet
                      exact ⟨by first | rw [E.out] | (rw [E.out]; simp), rfl⟩
                  · skip
                    have E : Hid (rtB r = false) := by unfold Hid; simp [rtB, f0]
                    go_wp2_with fail
                    go_meet
                    exact ⟨by first | rw [E.out] | (rw [E.out]; simp), rfl⟩
                · skip
                  have E : Hid (rtB r = false) := by unfold Hid; simp [rtB, k4]
                  go_wp2_with fail
                  go_meet
                  exact ⟨by first | rw [E.out] | (rw [E.out]; simp), rfl⟩
              · skip
                have E : Hid (rtB r = false) := by unfold Hid; simp [rtB, k0]
                go_wp2_with fail
                go_meet
                exact ⟨by first | rw [E.out] | (rw [E.out]; simp), rfl⟩
            case rest =>
              obtain ⟨rfl, hwc⟩ := hcut
              subst hwc
              go_upto_region 13 with fail
              obtain ⟨T, hT⟩ : ∃ T, rtB r = T := ⟨_, rfl⟩
              have HT := Lib.hid hT
              rw [hT]
              clear hT
              go_wp2_with (first | (go_at_call 9; refine (right9 r _).mono ?_; rintro e w4 ⟨rfl, hb4⟩; rw [HT.out]; have B4 := Lib.hid (B3.out.trans (hb4.mono B3.out.size)); clear hb4))
              go_roundw
              case rel => exact ⟨k + 1, a', x', p', by omega, by go_num, rfl, rfl, rfl, HN.out, B4.out⟩
              case measure => simp [intOf]; omega
      · obtain rfl : k = R.length := by omega
        have HR2 := Lib.hid (HR1.out.call HB.out)
        have HF2 := Lib.hid (HF1.out.call HB.out)
        have HB2 := Lib.hid (HB1.out.trans (HB.out.mono HB1.out.size))
        clear HR1 HF1 HB1 HB hlt hk
        go_wp2_with (first
          | (go_at_call 10; refine (all10 _ _ _ _ _ _ wr HR2.out (by omega) HF2.out).mono ?_; rintro e w3 ⟨a', x', p', rfl, hp, hb3⟩; obtain ⟨rfl, rfl, rfl⟩ := hp.uniq HP.out; have HB3 := Lib.hid (HB2.out.trans (hb3.mono HB2.out.size)); clear hb3 hp)
          | (go_at_call 3; refine (ruleRuns_any _).mono ?_; rintro e w4 ⟨rfl, hb4⟩; have HB4 := Lib.hid (HB3.out.trans (hb4.mono HB3.out.size)); clear hb4))
        go_ret
        exact ⟨rfl, HB4.out⟩
end Go.Proofs.Ytfmjlgplcepomaa
