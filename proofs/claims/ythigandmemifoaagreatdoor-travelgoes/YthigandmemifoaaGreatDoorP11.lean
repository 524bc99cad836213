/-
  Put together: RRt, KSm, RecP.
-/
import Derived.Test.YthigandmemifoaaGreatDoorP08
import Derived.Test.YthigandmemifoaaGreatDoorP09
import Derived.Test.YthigandmemifoaaGreatDoorP10
import Derived.Test.YthigandmemifoaaGreatDoorP06
import Derived.Test.YthigandmemifoaaGreatDoorP05
namespace Go.Proofs.YthigandmemifoaaGreatDoor
open Go.RowKit Go.PlainAid
set_option maxRecDepth 100000

/-- a record's name, that none ahead has it, its parent, its full pattern -/
def okR (l : List Rc) (i : Nat) : Bool :=
  txB (l.getD i default).n && (decide (nmI (l.take i) (l.getD i default).n = -1) && (decide (-1 ≤ (l.getD i default).p ∧ (l.getD i default).p < (i : Int)) && rgB (fuL l i)))
/-- may they be an application's? -/
def rtB (l : List Rc) : Bool := decide (1 ≤ l.length ∧ l.length ≤ 16) && (List.range l.length).all (okR l)
theorem rt_not {l : List Rc} {k : Nat} (hk : k < l.length) (h : okR l k = false) : rtB l = false := by
  rw [rtB, Bool.and_eq_false_iff]
  refine Or.inr ?_
  rw [List.all_eq_false]
  exact ⟨k, by simpa using hk, by rw [h]; decide⟩
theorem rt_yes {l : List Rc} (h1 : 1 ≤ l.length) (h16 : l.length ≤ 16) (h : ∀ j, j < l.length → okR l j = true) : rtB l = true := by
  rw [rtB, decide_eq_true ⟨h1, h16⟩, Bool.true_and, List.all_eq_true]
  intro x hx
  exact h x (by simpa using hx)
theorem ok4 {b1 b2 b3 b4 : Bool} (h : b1 = false ∨ b2 = false ∨ b3 = false ∨ b4 = false) : (b1 && (b2 && (b3 && b4))) = false := by
  rcases h with rfl | rfl | rfl | rfl <;> simp

set_option maxHeartbeats 12800000 in
theorem right11 (v : Value) (l : List Rc) (w : World) (h : Rs w v l) (hf : Fit l) :
    Calls Tryz.prog 61 #[v] w fun e w' => e = .returned (.bool (rtB l)) ∧ Below w.heap.size w w' := by
  have HS := Lib.hid h
  have HF := Lib.hid hf
  obtain ⟨A, cap, rfl, hcap, _⟩ := h
  have hl20 := hf.1
  clear hf
  by_cases h1 : 1 ≤ l.length
  · by_cases h16 : l.length ≤ 16
    · have d1 : ¬ (l.length : Int) < 1 := by omega
      have d16 : ¬ (16 : Int) < (l.length : Int) := by omega
      go_enter Tryz.func61, Tryz.ntmps61
      go_wp2_with fail
      go_loopw [15] (fun i wr => ∃ (k : Nat), k ≤ l.length ∧ i = .int .i64 k ∧ Hid (∀ j, j < k → okR l j = true) ∧ Hid (Below w.heap.size w wr)) (fun i _ => l.length - (intOf i).toNat)
      case atStart => exact ⟨0, Nat.zero_le _, rfl, fun j hj => by omega, Below.refl _ _⟩
      case round =>
        obtain ⟨k, hk, rfl, HA, HW⟩ := hrel
        by_cases hlt : k < l.length
        · have d0 : (k : Int) < (l.length : Int) := by omega
          obtain ⟨x, o, rfl, hat, hgs⟩ := (HS.out.call HW.out).at k hlt
          obtain ⟨g0, g1, g2, g3, g4, g5, g6, g7⟩ := hat
          obtain ⟨A7, n7, c7, h7⟩ := hgs.shape
          have e0 : okR l k = (txB (l.getD k default).n && (decide (nmI (l.take k) (l.getD k default).n = -1) && (decide (-1 ≤ (l.getD k default).p ∧ (l.getD k default).p < (k : Int)) && rgB (fuL l k)))) := rfl
          have E0 := Lib.hid e0
          have HQ := Lib.hid (@rt_not l k hlt)
          clear e0 hgs
          generalize l.getD k default = r at *
          rw [h7] at g2
          clear h7
          have HX := Lib.hid (blk_new wr (.cells #[.string r.n, .int .i64 r.p, .slice A7 n7 c7, .int .i64 r.c, .bool r.k, .int .i64 r.rk, .int .i64 r.rf, .string r.rt] 26 (0, 0)))
          have HY := Lib.hid (HW.out.alloc HW.out.size (.cells #[.string r.n, .int .i64 r.p, .slice A7 n7 c7, .int .i64 r.c, .bool r.k, .int .i64 r.rk, .int .i64 r.rf, .string r.rt] 26 (0, 0)))
          have d2 : (k : Int) ≤ (l.length : Int) := by omega
          have d3 : (k : Int) ≤ (cap : Int) := by omega
          go_wp2_with fail
          have HR9 := Lib.hid ((HS.out.call HY.out).take k hk)
          have HS9 := Lib.hid (HS.out.call HY.out)
          generalize wr.alloc (.cells #[.string r.n, .int .i64 r.p, .slice A7 n7 c7, .int .i64 r.c, .bool r.k, .int .i64 r.rk, .int .i64 r.rf, .string r.rt] 26) = w9 at *
          have KS : Hid (∀ w' : World, Below w9.heap.size w9 w' → w'.cell? ⟨wr.heap.size, 0, none⟩ = some (.string r.n) ∧ w'.cell? ⟨wr.heap.size, 1, none⟩ = some (.int .i64 r.p) ∧ Below w9.heap.size w9 w') := by
            intro w' hk
            have hb := blk_call HX.out hk
            exact ⟨by rw [blk_cell hb]; rfl, by rw [blk_cell hb]; rfl, hk⟩
          clear g0 g1 g2 g3 g4 g5 g6 g7
          by_cases hb1 : txB r.n = true
          · have HB1 := Lib.hid hb1
            clear hb1
            generalize hnm : nmI (l.take k) r.n = nm at *
            have HNM := Lib.hid hnm
            clear hnm
            by_cases hn : nm = -1
            · subst hn
              go_region_held3 (fun w' : World => w'.cell? ⟨wr.heap.size, 0, none⟩ = some (.string r.n) ∧ w'.cell? ⟨wr.heap.size, 1, none⟩ = some (.int .i64 r.p) ∧ Below w9.heap.size w9 w')
                (first | exact KS.out _ ((Below.refl _ _).drew) | exact KS.out _ M3.out)
                (first
                  | (go_at_call 78; refine (isName33 _ _).mono ?_; rintro e w1 ⟨rfl, rfl⟩; rw [HB1.out])
                  | (go_at_call 66; refine (named14 _ (l.take k) _ _ (HR9.out.call ((Below.refl _ _).drew)) (by simp; omega)).mono ?_; rintro e w1 ⟨rfl, h⟩; rw [HNM.out]; have M3 := Lib.hid (((Below.refl w9.heap.size w9).drew).trans h); clear h))
              by_cases hp1 : r.p < -1
              · have E1 := Lib.hid (HQ.out (by rw [E0.out]; exact ok4 (Or.inr (Or.inr (Or.inl (decide_eq_false (by omega)))))))
                go_wp2
                rw [E1.out]
                go_ret
                exact ⟨rfl, HY.out.trans (M3.out.mono (HY.out.size))⟩
              · by_cases hp2 : (k : Int) ≤ r.p
                · have E1 := Lib.hid (HQ.out (by rw [E0.out]; exact ok4 (Or.inr (Or.inr (Or.inl (decide_eq_false (by omega)))))))
                  go_wp2
                  rw [E1.out]
                  go_ret
                  exact ⟨rfl, HY.out.trans (M3.out.mono (HY.out.size))⟩
                · have E3 : Hid (decide (-1 ≤ r.p ∧ r.p < (k : Int)) = true) := decide_eq_true (by omega)
                  have hp3 : r.p < (k : Int) := by omega
                  clear hp2
                  by_cases hrg : rgB (fuL l k) = true
                  · have HRG := Lib.hid hrg
                    have E1 : Hid (okR l k = true) := (by show _ = _; rw [E0.out, HB1.out, E3.out, hrg]; rfl)
                    clear hrg
                    go_wp2_with (first
                      | (go_at_call 62; refine (full21 _ l k _ (HS9.out.call M3.out) HF.out).mono ?_; rintro e w2 ⟨u2, rfl, h2⟩; have H2 := Lib.hid h2; obtain ⟨A8, n8, c8, e8⟩ := h2.gs.shape; subst e8; clear h2)
                      | (go_at_call 79; refine (right16 _ (fuL l k) _ H2.out.gs).mono ?_; rintro e w3 ⟨rfl, h3⟩; rw [HRG.out]; have H3 := Lib.hid h3; clear h3))
                    go_roundw
                    case rel => exact ⟨k + 1, by omega, by go_num, fun j hj => (by rcases Nat.lt_succ_iff_lt_or_eq.1 hj with h | rfl; exact HA.out j h; exact E1.out), HY.out.trans ((M3.out.trans ((H2.out.2.1.trans (H3.out.mono H2.out.2.1.size)).mono M3.out.size)).mono (HY.out.size))⟩
                    case measure => simp [intOf]; omega
                  · have hrg : rgB (fuL l k) = false := by simpa using hrg
                    have HRG := Lib.hid hrg
                    have E1 := Lib.hid (HQ.out (by rw [E0.out]; exact ok4 (Or.inr (Or.inr (Or.inr hrg)))))
                    clear hrg
                    go_wp2_with (first
                      | (go_at_call 62; refine (full21 _ l k _ (HS9.out.call M3.out) HF.out).mono ?_; rintro e w2 ⟨u2, rfl, h2⟩; have H2 := Lib.hid h2; obtain ⟨A8, n8, c8, e8⟩ := h2.gs.shape; subst e8; clear h2)
                      | (go_at_call 79; refine (right16 _ (fuL l k) _ H2.out.gs).mono ?_; rintro e w3 ⟨rfl, h3⟩; rw [HRG.out]; have H3 := Lib.hid h3; clear h3))
                    rw [E1.out]
                    go_ret
                    exact ⟨rfl, HY.out.trans ((M3.out.trans ((H2.out.2.1.trans (H3.out.mono H2.out.2.1.size)).mono M3.out.size)).mono (HY.out.size))⟩
            · have c9 : (nm != -1) = true := by simpa using hn
              have E1 := Lib.hid (HQ.out (by rw [E0.out]; exact ok4 (Or.inr (Or.inl (decide_eq_false hn)))))
              have HN9 : Hid (nm ≠ -1) := hn
              clear hn
              go_region_held3 (fun w' : World => w'.cell? ⟨wr.heap.size, 0, none⟩ = some (.string r.n) ∧ w'.cell? ⟨wr.heap.size, 1, none⟩ = some (.int .i64 r.p) ∧ Below w9.heap.size w9 w')
                (first | exact KS.out _ ((Below.refl _ _).drew) | exact KS.out _ M3.out)
                (first
                  | (go_at_call 78; refine (isName33 _ _).mono ?_; rintro e w1 ⟨rfl, rfl⟩; rw [HB1.out])
                  | (go_at_call 66; refine (named14 _ (l.take k) _ _ (HR9.out.call ((Below.refl _ _).drew)) (by simp; omega)).mono ?_; rintro e w1 ⟨rfl, h⟩; rw [HNM.out]; have M3 := Lib.hid (((Below.refl w9.heap.size w9).drew).trans h); clear h))
              go_wp2
              rw [E1.out]
              go_ret
              exact ⟨rfl, HY.out.trans (M3.out.mono (HY.out.size))⟩
          · have hb1 : txB r.n = false := by simpa using hb1
            have HB1 := Lib.hid hb1
            have E1 := Lib.hid (HQ.out (by rw [E0.out]; exact ok4 (Or.inl hb1)))
            clear hb1
            have hSd : (fun w' : World => w'.cell? ⟨wr.heap.size, 0, none⟩ = some (.string r.n) ∧ w'.cell? ⟨wr.heap.size, 1, none⟩ = some (.int .i64 r.p) ∧ Below w9.heap.size w9 w') (World.drew w9) := KS.out _ ((Below.refl _ _).drew)
            refine wp_region_sink (S := fun w' : World => w'.cell? ⟨wr.heap.size, 0, none⟩ = some (.string r.n) ∧ w'.cell? ⟨wr.heap.size, 1, none⟩ = some (.int .i64 r.p) ∧ Below w9.heap.size w9 w') (n := 1000) (by kernel_rfl) ?_
            change wpSink _ _ _ _ _ 1000 13 _ _ _
            refine sink_take1 (i := 0) (d := some 20) (v := ?_) rfl rfl (by kernel_rfl) (by decide) (by kernel_rfl) (by kernel_rfl) (fun _ _ _ h => h) (Or.inl ⟨by rfl, ?_⟩) hSd ?_
            rotate_left
            · intro wz hSw
              (try dsimp only at hSw)
              obtain ⟨q0, q1, q2⟩ := hSw
              go_simp
              (try with_reducible rfl)
            try simp only [Act.put, List.setIfInBounds_toArray, List.set_cons_zero, List.set_cons_succ]
            refine sink_take1 (i := 1) (d := some 21) (v := ?_) rfl rfl (by kernel_rfl) (by decide) (by kernel_rfl) (by kernel_rfl) (fun _ _ _ h => h) (Or.inl ⟨by rfl, ?_⟩) hSd ?_
            rotate_left
            · intro wz hSw
              (try dsimp only at hSw)
              obtain ⟨q0, q1, q2⟩ := hSw
              go_simp
              (try with_reducible rfl)
            try simp only [Act.put, List.setIfInBounds_toArray, List.set_cons_zero, List.set_cons_succ]
            refine sink_one (i := 2) (by kernel_rfl) ?_
            refine wpOp_step rfl (fun K' hK => ?_)
            have HK := Lib.hid hK
            clear hK
            rw [if_pos (by rfl)]
            go_simp
            refine (isName33 _ _).mono ?_
            rintro e w1 ⟨rfl, rfl⟩
            rw [HB1.out]
            refine HK.out _ _ ⟨Or.inr hSd, ?_⟩
            clear HK
            try simp only [Act.put, List.setIfInBounds_toArray, List.set_cons_zero, List.set_cons_succ]
            refine sink_take1 (i := 3) (d := some 23) (v := ?_) rfl rfl (by kernel_rfl) (by decide) (by kernel_rfl) (by kernel_rfl) (fun _ _ _ h => h) (Or.inl ⟨by rfl, ?_⟩) hSd ?_
            rotate_left
            · intro wz hSw
              (try dsimp only at hSw)
              obtain ⟨q0, q1, q2⟩ := hSw
              go_simp
              (try with_reducible rfl)
            try simp only [Act.put, List.setIfInBounds_toArray, List.set_cons_zero, List.set_cons_succ]
            refine sink_take1 (i := 4) (d := some 24) (v := ?_) rfl rfl (by kernel_rfl) (by decide) (by kernel_rfl) (by kernel_rfl) (fun _ _ _ h => h) (Or.inl ⟨by rfl, ?_⟩) hSd ?_
            rotate_left
            · intro wz hSw
              (try dsimp only at hSw)
              obtain ⟨q0, q1, q2⟩ := hSw
              go_simp
              (try with_reducible rfl)
            try simp only [Act.put, List.setIfInBounds_toArray, List.set_cons_zero, List.set_cons_succ]
            refine sink_take1 (i := 5) (d := some 25) (v := undef) rfl rfl (by kernel_rfl) (by decide) (by kernel_rfl) (by kernel_rfl) (fun _ _ _ h => h) (Or.inr ⟨by kernel_rfl, rfl⟩) hSd ?_
            try simp only [Act.put, List.setIfInBounds_toArray, List.set_cons_zero, List.set_cons_succ]
            refine sink_take1 (i := 6) (d := some 26) (v := undef) rfl rfl (by kernel_rfl) (by decide) (by kernel_rfl) (by kernel_rfl) (fun _ _ _ h => h) (Or.inr ⟨by kernel_rfl, rfl⟩) hSd ?_
            try simp only [Act.put, List.setIfInBounds_toArray, List.set_cons_zero, List.set_cons_succ]
            refine sink_take1 (i := 7) (d := some 27) (v := undef) rfl rfl (by kernel_rfl) (by decide) (by kernel_rfl) (by kernel_rfl) (fun _ _ _ h => h) (Or.inr ⟨by kernel_rfl, rfl⟩) hSd ?_
            try simp only [Act.put, List.setIfInBounds_toArray, List.set_cons_zero, List.set_cons_succ]
            refine sink_take1 (i := 8) (d := some 28) (v := undef) rfl rfl (by kernel_rfl) (by decide) (by kernel_rfl) (by kernel_rfl) (fun _ _ _ h => h) (Or.inr ⟨by kernel_rfl, rfl⟩) hSd ?_
            try simp only [Act.put, List.setIfInBounds_toArray, List.set_cons_zero, List.set_cons_succ]
            refine sink_take1 (i := 9) (d := some 29) (v := undef) rfl rfl (by kernel_rfl) (by decide) (by kernel_rfl) (by kernel_rfl) (fun _ _ _ h => h) (Or.inr ⟨by kernel_rfl, rfl⟩) hSd ?_
            try simp only [Act.put, List.setIfInBounds_toArray, List.set_cons_zero, List.set_cons_succ]
            refine sink_take1 (i := 10) (d := some 30) (v := undef) rfl rfl (by kernel_rfl) (by decide) (by kernel_rfl) (by kernel_rfl) (fun _ _ _ h => h) (Or.inr ⟨by kernel_rfl, rfl⟩) hSd ?_
            try simp only [Act.put, List.setIfInBounds_toArray, List.set_cons_zero, List.set_cons_succ]
            refine sink_take1 (i := 11) (d := some 31) (v := undef) rfl rfl (by kernel_rfl) (by decide) (by kernel_rfl) (by kernel_rfl) (fun _ _ _ h => h) (Or.inr ⟨by kernel_rfl, rfl⟩) hSd ?_
            try simp only [Act.put, List.setIfInBounds_toArray, List.set_cons_zero, List.set_cons_succ]
            refine sink_take1 (i := 12) (d := some 32) (v := ?_) rfl rfl (by kernel_rfl) (by decide) (by kernel_rfl) (by kernel_rfl) (fun _ _ _ h => h) (Or.inl ⟨by rfl, ?_⟩) hSd ?_
            rotate_left
            · intro wz hSw
              (try dsimp only at hSw)
              obtain ⟨q0, q1, q2⟩ := hSw
              go_simp
              (try with_reducible rfl)
            try simp only [Act.put, List.setIfInBounds_toArray, List.set_cons_zero, List.set_cons_succ]
            refine sink_done (by kernel_rfl) ?_
            clear hSd
            go_wp2
            rw [E1.out]
            go_ret
            exact ⟨rfl, HY.out.trans (((Below.refl _ _).drew).mono (HY.out.size))⟩
        · obtain rfl : k = l.length := by omega
          have E1 := Lib.hid (rt_yes h1 h16 HA.out)
          go_wp2
          rw [E1.out]
          go_ret
          exact ⟨rfl, HW.out⟩
    · have d1 : ¬ (l.length : Int) < 1 := by omega
      have d16 : (16 : Int) < (l.length : Int) := by omega
      have e : rtB l = false := by rw [rtB, decide_eq_false (fun h => h16 h.2)]; rfl
      rw [e]
      go_enter Tryz.func61, Tryz.ntmps61
      go_wp2
      go_ret
      exact ⟨rfl, Below.refl _ _⟩
  · have d1 : (l.length : Int) < 1 := by omega
    have e : rtB l = false := by rw [rtB, decide_eq_false (fun h => h1 h.1)]; rfl
    rw [e]
    go_enter Tryz.func61, Tryz.ntmps61
    go_wp2
    go_ret
    exact ⟨rfl, Below.refl _ _⟩
end Go.Proofs.YthigandmemifoaaGreatDoor

namespace Go.Proofs.YthigandmemifoaaGreatDoor
open Go.RowKit Go.PlainAid
set_option maxRecDepth 100000

set_option maxHeartbeats 800000 in
theorem within1 (n : Int) (h : Nat) (w : World) (h1 : h ≤ 100000) :
    Calls Tryz.prog 17 #[.int .i64 n, .int .i64 (-1), .int .i64 h] w fun e w' => ∃ r : Int, -1 ≤ r ∧ r ≤ (h : Int) ∧ e = .returned (.int .i64 r) ∧ w' = w := by
  have b1 := Int.tmod_lt_of_pos n (show 0 < (h : Int) + 1 + 1 by omega)
  have b2 := Int.lt_tmod_of_pos n (show 0 < (h : Int) + 1 + 1 by omega)
  have e1 : (h : Int) - (-1) + 1 = (h : Int) + 1 + 1 := by omega
  by_cases hneg : n.tmod ((h : Int) + 1 + 1) < 0
  · go_enter Tryz.func17, Tryz.ntmps17
    go_wp2
    go_ret
    exact ⟨_, by omega, by omega, rfl, rfl⟩
  · go_enter Tryz.func17, Tryz.ntmps17
    go_wp2
    go_ret
    exact ⟨_, by omega, by omega, rfl, rfl⟩

/-- must it be last? -/
def lastB (l : List Sg) : Bool := l.any (fun g => decide (2 ≤ g.1))
set_option maxHeartbeats 800000 in
theorem last27 (v : Value) (l : List Sg) (w : World) (h : Gs w v l) (hl : l = [] ∨ ∃ g, l = [g]) :
    Calls Tryz.prog 26 #[v] w fun e w' => e = .returned (.bool (lastB l)) ∧ w' = w := by
  rcases hl with rfl | ⟨g, rfl⟩
  · obtain ⟨A, c, rfl, _⟩ := h
    go_enter Tryz.func26, Tryz.ntmps26
    go_wp2
    go_ret
    exact ⟨rfl, rfl⟩
  · obtain ⟨A, c, rfl, _, _, h4⟩ := h
    obtain ⟨b, o, rfl, c1, c2⟩ := h4 0 (by simp)
    have c1 : w.cell? ⟨b, o, none⟩ = some (.int .i64 g.1) := by simpa using c1
    have e : lastB [g] = decide (2 ≤ g.1) := by simp [lastB]
    rw [e]
    clear h4 c2 e
    by_cases hg : 2 ≤ g.1
    · rw [decide_eq_true hg]
      go_enter Tryz.func26, Tryz.ntmps26
      go_wp2
      go_ret
      exact ⟨rfl, rfl⟩
    · rw [decide_eq_false hg]
      go_enter Tryz.func26, Tryz.ntmps26
      go_wp2
      go_ret
      exact ⟨rfl, rfl⟩
end Go.Proofs.YthigandmemifoaaGreatDoor

namespace Go.Proofs.YthigandmemifoaaGreatDoor
open Go.RowKit Go.PlainAid
set_option maxRecDepth 100000

def homeT : ByteArray := ⟨#[104, 111, 109, 101]⟩
/-- a segment of the i-th record -/
def SegR (i : Nat) (g : Sg) : Prop := (g.1 = 0 ∧ g.2 ∈ ksT) ∨ ((g.1 = 1 ∨ g.1 = 2 ∨ g.1 = 3) ∧ g.2 = ⟨#[112]⟩ ++ st [96 + (i : Int)])
/-- a parent, and how deep one stands below it -/
def ParR (l : List Rc) (ds : List Nat) (i : Nat) (p : Int) (d : Nat) : Prop := (p = -1 ∧ d = 1) ∨ ∃ q : Nat, p = (q : Int) ∧ q < i ∧ ds.getD q 0 ≤ 3 ∧ lastB (l.getD q default).l = false ∧ d = ds.getD q 0 + 1
structure RecOk (l : List Rc) (ds : List Nat) : Prop where
  len1 : 1 ≤ l.length
  len8 : l.length ≤ 8
  dlen : ds.length = l.length
  d0 : ds.getD 0 0 = 0
  r0 : (l.getD 0 default).n = homeT ∧ (l.getD 0 default).p = -1 ∧ (l.getD 0 default).l = []
  step : ∀ i, 1 ≤ i → i < l.length → (l.getD i default).n = ⟨#[114]⟩ ++ st [96 + (i : Int)] ∧ ParR l ds i (l.getD i default).p (ds.getD i 0) ∧ ∃ g, (l.getD i default).l = [g] ∧ SegR i g
theorem recOk_home (u : Value) : RecOk [⟨homeT, -1, u, [], 0, false, 0, 0, ⟨#[]⟩⟩] [0] :=
  ⟨by simp, by simp, rfl, rfl, ⟨rfl, rfl, rfl⟩, fun i h1 h2 => by simp at h2; omega⟩
theorem getD_app {α : Type} [Inhabited α] (l : List α) (x d : α) (i : Nat) (h : i < l.length) : (l ++ [x]).getD i d = l.getD i d := by
  simp only [List.getD]; rw [List.getElem?_append_left h]
theorem getD_end {α : Type} [Inhabited α] (l : List α) (x d : α) (i : Nat) (h : i = l.length) : (l ++ [x]).getD i d = x := by
  subst h; simp [List.getD]
theorem RecOk.push {l : List Rc} {ds : List Nat} (h : RecOk l ds) (h8 : l.length < 8) (r : Rc) (d : Nat) (hn : r.n = ⟨#[114]⟩ ++ st [96 + (l.length : Int)]) (hp : ParR l ds l.length r.p d) (g : Sg) (hl : r.l = [g]) (hg : SegR l.length g) : RecOk (l ++ [r]) (ds ++ [d]) := by
  have hdl := h.dlen
  have hl1 := h.len1
  have par : ∀ i p d', i ≤ l.length → ParR l ds i p d' → ParR (l ++ [r]) (ds ++ [d]) i p d' := by
    intro i p d' hi hp
    rcases hp with hp | ⟨q, h1, h2, h3, h4, h5⟩
    · exact Or.inl hp
    · refine Or.inr ⟨q, h1, h2, ?_, ?_, ?_⟩
      · rw [getD_app ds d 0 q (by omega)]; exact h3
      · rw [getD_app l r default q (by omega)]; exact h4
      · rw [getD_app ds d 0 q (by omega)]; exact h5
  refine ⟨by simp, by simp; omega, by simp; omega, ?_, ?_, fun i h1 h2 => ?_⟩
  · rw [getD_app ds d 0 0 (by omega)]; exact h.d0
  · rw [getD_app l r default 0 (by omega)]; exact h.r0
  · by_cases hi : i < l.length
    · rw [getD_app l r default i hi, getD_app ds d 0 i (by omega)]
      obtain ⟨a, b, c⟩ := h.step i h1 hi
      exact ⟨a, par i _ _ (by omega) b, c⟩
    · have hi : i = l.length := by simp at h2; omega
      subst hi
      rw [getD_end l r default _ rfl, getD_end ds d 0 _ hdl.symm]
      exact ⟨hn, par _ _ _ (Nat.le_refl _) hp, g, hl, hg⟩
theorem RecOk.seg1 {l : List Rc} {ds : List Nat} (h : RecOk l ds) (i : Nat) (hi : i < l.length) : (l.getD i default).l = [] ∨ ∃ g, (l.getD i default).l = [g] := by
  by_cases h0 : i = 0
  · subst h0; exact Or.inl h.r0.2.2
  · obtain ⟨_, _, g, hg, _⟩ := h.step i (by omega) hi
    exact Or.inr ⟨g, hg⟩
theorem RecOk.dle {l : List Rc} {ds : List Nat} (h : RecOk l ds) (i : Nat) (hi : i < l.length) : ds.getD i 0 ≤ 4 := by
  by_cases h0 : i = 0
  · subst h0; rw [h.d0]; omega
  · obtain ⟨_, h1, _⟩ := h.step i (by omega) hi
    rcases h1 with ⟨_, h1⟩ | ⟨q, _, _, h2, _, h3⟩ <;> omega
end Go.Proofs.YthigandmemifoaaGreatDoor
