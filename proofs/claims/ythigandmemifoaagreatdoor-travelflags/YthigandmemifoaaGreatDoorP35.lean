/-
  Put together: UParse, TvP.
-/
import Derived.Test.YthigandmemifoaaGreatDoorP24
import Derived.Test.YthigandmemifoaaGreatDoorP34
import Derived.Test.YthigandmemifoaaGreatDoorP14
import Derived.Test.YthigandmemifoaaGreatDoorP32
namespace Go.Proofs.YthigandmemifoaaGreatDoor
open Go.RowKit Go.PlainAid
set_option maxRecDepth 100000

def hv0 (s : ByteArray) : ByteArray := (spl 63 s).getD 0 default
def hvs1 (s : ByteArray) : List ByteArray := (spl 63 s).drop 1
def parB (s : ByteArray) : Bool := decide (s.size ≠ 0 ∧ bt s 0 = 47) && (splB 63 2 s && (upB (hv0 s) && (rqB (hvs1 s) && rightB (rpL (hv0 s)) (rqL (hvs1 s)))))
def parP (s : ByteArray) : List ByteArray := if parB s then rpL (hv0 s) else []
def parQ (s : ByteArray) : List Pr := if parB s then rqL (hvs1 s) else []
def erI (b : Bool) : Int := if b then 0 else 1

theorem hv0_size (s : ByteArray) (h0 : s.size ≠ 0) (h : bt s 0 = 47) : 1 ≤ (hv0 s).size ∧ (hv0 s).size ≤ s.size := by
  refine ⟨?_, spl_size 63 s _ (getD_mem _ _ (spl_ne 63 s))⟩
  have hl := bs_len s
  rw [hv0, spl]
  rw [← bs_at] at h
  match hb : bs s, h with
  | [], _ => rw [hb] at hl; simp at hl; omega
  | c :: r, h =>
    rw [hb] at hl
    simp [List.getD] at h
    rw [splL, if_neg (by omega)]
    split
    · simp [List.getD, st_size]
    · simp [List.getD, st_size]

/-- the rest of a slice -/
theorem ss_tail {w : World} {b o n cap : Nat} {l : List ByteArray} (hl : l.length = n + 1) (h : Ss w (.slice (some ⟨b, o, none⟩) l.length cap) l) (A : Option Addr) (hA : A = some ⟨b, o, none⟩ ∧ cap = 1 ∨ A = some ⟨b, o + 1, none⟩) : Ss w (.slice A n (cap - 1)) (l.drop 1) := by
  obtain ⟨A', cap', e, h1, h2, h3⟩ := h
  simp only [Value.slice.injEq] at e
  obtain ⟨rfl, _, rfl⟩ := e
  have hd : (l.drop 1).length = n := by simp; omega
  refine ⟨A, cap - 1, by rw [hd], by omega, ?_, fun i hi => ?_⟩
  · intro h; rcases hA with ⟨h', _⟩ | h' <;> rw [h'] at h <;> cases h
  · obtain ⟨b', o', e, hc⟩ := h3 (i + 1) (by omega)
    cases e
    rcases hA with ⟨_, h'⟩ | h'
    · omega
    · refine ⟨b, o + 1, h', ?_⟩
      have e2 : o + 1 + i = o + (i + 1) := by omega
      rw [e2, hc]
      simp

set_option maxHeartbeats 1600000 in
theorem parse9 (s : ByteArray) (w : World) (hs : s.size ≤ 10000) :
    Calls Tryz.prog 19 #[.string s] w fun e w' => ∃ v1 v2, e = .returned (.tuple #[.agg #[v1, v2], .int .i64 (erI (parB s))]) ∧ Ss w' v1 (parP s) ∧ Ps w' v2 (parQ s) ∧ Below w.heap.size w w' := by
  have gb := get_bt s
  by_cases h0 : s.size ≠ 0 ∧ bt s 0 = 47
  · by_cases hB : splB 63 2 s = true
    · have e0 : parB s = (upB (hv0 s) && (rqB (hvs1 s) && rightB (rpL (hv0 s)) (rqL (hvs1 s)))) := by rw [parB, decide_eq_true h0, hB]; rfl
      have E0 := Lib.hid e0
      clear e0
      obtain ⟨hz1, hz2⟩ := hv0_size s h0.1 h0.2
      obtain ⟨c1, c2⟩ := h0
      have c3 : ¬ (s.size : Int) = 0 := by omega
      have c4 : ((s.size : Int) == 0) = false := by simpa using c3
      have c5 : (0 : Int) < (s.size : Int) := by omega
      go_enter Tryz.func19, Tryz.ntmps19
      go_wp2_with fail
      have HK := Lib.hid (blk_new w (.cells #[.slice none 0 0, .slice none 0 0] 33 (0, 0)))
      have HB := Lib.hid ((Below.refl w.heap.size w).alloc (Nat.le_refl _) (.cells #[.slice none 0 0, .slice none 0 0] 33 (0, 0)))
      generalize w.alloc (.cells #[.slice none 0 0, .slice none 0 0] 33) = w5 at *
      refine (split23 _ _ 2 _ hs (by omega)).mono ?_
      rintro e w1 ⟨v1, rfl, h1⟩
      rw [hB]
      have hl : splM 63 2 s = spl 63 s := by rw [splM, if_pos (of_decide_eq_true hB)]
      have hl1 : (spl 63 s).length ≤ 2 := of_decide_eq_true hB
      rw [hl] at h1
      have hl2 := spl_ne 63 s
      obtain ⟨A, cap, rfl, hcap, _, hc⟩ := h1.ss
      obtain ⟨b, o, rfl, hc0⟩ := hc 0 hl2
      rw [Nat.add_zero] at hc0
      have e2 : (spl 63 s).getD 0 default = hv0 s := rfl
      rw [e2] at hc0
      have H1 := Lib.hid h1
      clear h1 hc hl e2
      have c6 : (0 : Int) < ((spl 63 s).length : Int) := by omega
      have c7 : (1 : Int) ≤ ((spl 63 s).length : Int) := by omega
      obtain ⟨A, hA, hA'⟩ : ∃ A : Option Addr, (if cap = 1 then some (⟨b, o, none⟩ : Addr) else some ⟨b, o + 1, none⟩) = A ∧ (A = some ⟨b, o, none⟩ ∧ cap = 1 ∨ A = some ⟨b, o + 1, none⟩) := by
        by_cases h : cap = 1
        · exact ⟨_, if_pos h, Or.inl ⟨rfl, h⟩⟩
        · exact ⟨_, if_neg h, Or.inr rfl⟩
      have HA := Lib.hid hA'
      clear hA'
      go_wp2_with (first | (go_at_call 38; refine (readPath24 _ _ (by omega) hz1).mono ?_; rintro e w2 ⟨v2, rfl, h2, h3⟩; have H2 := Lib.hid h2; have H3 := Lib.hid h3; clear h2 h3))
      have hts : Ss w2 (.slice A ((spl 63 s).length - 1) (cap - 1)) (hvs1 s) := (ss_tail (n := (spl 63 s).length - 1) (by omega) H1.out.ss A HA.out).call H3.out
      refine (readQuery25 _ _ _ hts (fun p hp => by have := spl_size 63 s p (List.mem_of_mem_drop hp); omega)).mono ?_
      rintro e w3 ⟨v3, rfl, h4, h5⟩
      clear hts
      have hb3 : Below w5.heap.size w5 w3 := (H1.out.2.1.trans (H3.out.mono H1.out.2.2)).trans (h5.mono (by have := H1.out.2.2; have := H3.out.size; omega))
      have hs2 : Ss w3 v2 (rpL (hv0 s)) := H2.out.call h5
      have H4 := Lib.hid h4
      have HB3 := Lib.hid hb3
      have HS2 := Lib.hid hs2
      clear h4 h5 hb3 hs2 H2 H3 H1 HA
      have hk3 := blk_call HK.out HB3.out
      have HB6 := Lib.hid (HB.out.trans (HB3.out.mono HB.out.size))
      have hlt3 : w.heap.size < w3.heap.size := blk_lt hk3
      obtain ⟨A2, n2, p2, rfl⟩ := HS2.out.shape
      obtain ⟨A3, n3, p3, rfl⟩ := H4.out.shape
      by_cases q1 : upB (hv0 s) = true
      · by_cases q2 : rqB (hvs1 s) = true
        · have e1 : parB s = rightB (rpL (hv0 s)) (rqL (hvs1 s)) := by rw [E0.out, q1, q2]; rfl
          have E1 := Lib.hid e1
          clear e1
          have HK3 := Lib.hid (blk_alloc hk3 (.cells #[.slice A2 n2 p2, .slice A3 n3 p3] 33 (0, 0)))
          have HN3 := Lib.hid (blk_new w3 (.cells #[.slice A2 n2 p2, .slice A3 n3 p3] 33 (0, 0)))
          have HBn := Lib.hid ((Below.refl w3.heap.size w3).alloc (Nat.le_refl _) (.cells #[.slice A2 n2 p2, .slice A3 n3 p3] 33 (0, 0)))
          clear hk3
          by_cases q3 : rightB (rpL (hv0 s)) (rqL (hvs1 s)) = true
          · have e2 : parB s = true ∧ parP s = rpL (hv0 s) ∧ parQ s = rqL (hvs1 s) := by
              have : parB s = true := by rw [E1.out, q3]
              exact ⟨this, by rw [parP, if_pos this], by rw [parQ, if_pos this]⟩
            have E2 := Lib.hid e2
            clear e2
            go_wp2_with fail
            generalize w3.alloc (.cells #[.slice A2 n2 p2, .slice A3 n3 p3] 33) = w7 at *
            refine (right28 _ _ _ _ _ (HS2.out.call HBn.out) (H4.out.call HBn.out)).mono ?_
            rintro e w8 ⟨rfl, h8⟩
            rw [q3]
            have HB8 := Lib.hid (HBn.out.trans (h8.mono HBn.out.size))
            have HK8 := Lib.hid (blk_call HK3.out h8)
            obtain ⟨k0, k1, k2, k3⟩ := blk2 HK8.out
            obtain ⟨k4, k5, k6, k7⟩ := blk2 (blk_call HN3.out h8)
            clear h8
            have hne : w3.heap.size ≠ w.heap.size := by omega
            go_wp2
            rw [E2.out.1, E2.out.2.1, E2.out.2.2]
            refine bodyPost_ret (v := .tuple #[.agg #[.slice A2 n2 p2, .slice A3 n3 p3], .int .i64 0]) ?_ rfl ⟨_, _, rfl, ?_, ?_, ?_⟩
            · rw [results_cell_tmp rfl]
              go_simp
            · exact (HS2.out.call HB8.out).set2 HK8.out _ _
            · exact (H4.out.call HB8.out).set2 HK8.out _ _
            · exact ((HB6.out.trans (HB8.out.mono (by omega))).setCell (Nat.le_refl _) _).setCell (Nat.le_refl _) _
          · have q3 : rightB (rpL (hv0 s)) (rqL (hvs1 s)) = false := by simpa using q3
            have e2 : parB s = false ∧ parP s = [] ∧ parQ s = [] := by
              have : parB s = false := by rw [E1.out, q3]
              exact ⟨this, by rw [parP, this]; rfl, by rw [parQ, this]; rfl⟩
            have E2 := Lib.hid e2
            clear e2
            go_wp2_with fail
            generalize w3.alloc (.cells #[.slice A2 n2 p2, .slice A3 n3 p3] 33) = w7 at *
            refine (right28 _ _ _ _ _ (HS2.out.call HBn.out) (H4.out.call HBn.out)).mono ?_
            rintro e w8 ⟨rfl, h8⟩
            rw [q3]
            have HB8 := Lib.hid (HBn.out.trans (h8.mono HBn.out.size))
            obtain ⟨k0, k1, k2, k3⟩ := blk2 (blk_call HK3.out h8)
            clear h8
            go_wp2
            rw [E2.out.1, E2.out.2.1, E2.out.2.2]
            refine bodyPost_ret (v := .tuple #[.agg #[.slice none 0 0, .slice none 0 0], .int .i64 1]) ?_ rfl ⟨_, _, rfl, ss_nil _, ps_nil _, ?_⟩
            · rw [results_cell_tmp rfl]
              go_simp
            · exact ((HB6.out.trans (HB8.out.mono (by omega))).setCell (Nat.le_refl _) _).setCell (Nat.le_refl _) _
        · have q2 : rqB (hvs1 s) = false := by simpa using q2
          have e2 : parB s = false ∧ parP s = [] ∧ parQ s = [] := by
            have : parB s = false := by rw [E0.out, q2]; simp
            exact ⟨this, by rw [parP, this]; rfl, by rw [parQ, this]; rfl⟩
          have E2 := Lib.hid e2
          clear e2
          obtain ⟨k0, k1, k2, k3⟩ := blk2 hk3
          clear hk3
          go_wp2
          rw [E2.out.1, E2.out.2.1, E2.out.2.2]
          refine bodyPost_ret (v := .tuple #[.agg #[.slice none 0 0, .slice none 0 0], .int .i64 1]) ?_ rfl ⟨_, _, rfl, ss_nil _, ps_nil _, ?_⟩
          · rw [results_cell_tmp rfl]
            go_simp
          · exact ((HB6.out.setCell (Nat.le_refl _) _).setCell (Nat.le_refl _) _).alloc (by simp [World.setCell]; omega) _
      · have q1 : upB (hv0 s) = false := by simpa using q1
        have e2 : parB s = false ∧ parP s = [] ∧ parQ s = [] := by
          have : parB s = false := by rw [E0.out, q1]; simp
          exact ⟨this, by rw [parP, this]; rfl, by rw [parQ, this]; rfl⟩
        have E2 := Lib.hid e2
        clear e2
        obtain ⟨k0, k1, k2, k3⟩ := blk2 hk3
        clear hk3
        go_wp2
        rw [E2.out.1, E2.out.2.1, E2.out.2.2]
        refine bodyPost_ret (v := .tuple #[.agg #[.slice none 0 0, .slice none 0 0], .int .i64 1]) ?_ rfl ⟨_, _, rfl, ss_nil _, ps_nil _, ?_⟩
        · rw [results_cell_tmp rfl]
          go_simp
        · exact ((HB6.out.setCell (Nat.le_refl _) _).setCell (Nat.le_refl _) _).alloc (by simp [World.setCell]; omega) _
    · have hB : splB 63 2 s = false := by simpa using hB
      have e2 : parB s = false ∧ parP s = [] ∧ parQ s = [] := by
        have : parB s = false := by rw [parB, hB]; simp
        exact ⟨this, by rw [parP, this]; rfl, by rw [parQ, this]; rfl⟩
      have E2 := Lib.hid e2
      clear e2
      obtain ⟨c1, c2⟩ := h0
      have c3 : ¬ (s.size : Int) = 0 := by omega
      have c4 : ((s.size : Int) == 0) = false := by simpa using c3
      have c5 : (0 : Int) < (s.size : Int) := by omega
      go_enter Tryz.func19, Tryz.ntmps19
      go_wp2_with fail
      have HK := Lib.hid (blk_new w (.cells #[.slice none 0 0, .slice none 0 0] 33 (0, 0)))
      have HB := Lib.hid ((Below.refl w.heap.size w).alloc (Nat.le_refl _) (.cells #[.slice none 0 0, .slice none 0 0] 33 (0, 0)))
      generalize w.alloc (.cells #[.slice none 0 0, .slice none 0 0] 33) = w5 at *
      refine (split23 _ _ 2 _ hs (by omega)).mono ?_
      rintro e w1 ⟨v1, rfl, h1⟩
      rw [hB]
      obtain ⟨k0, k1, k2, k3⟩ := blk2 (blk_call HK.out h1.2.1)
      have HB8 := Lib.hid (HB.out.trans (h1.2.1.mono HB.out.size))
      clear h1
      go_wp2
      rw [E2.out.1, E2.out.2.1, E2.out.2.2]
      refine bodyPost_ret (v := .tuple #[.agg #[.slice none 0 0, .slice none 0 0], .int .i64 1]) ?_ rfl ⟨_, _, rfl, ss_nil _, ps_nil _, ?_⟩
      · rw [results_cell_tmp rfl]
        go_simp
      · exact (HB8.out.setCell (Nat.le_refl _) _).setCell (Nat.le_refl _) _
  · have e2 : parB s = false ∧ parP s = [] ∧ parQ s = [] := by
      have : parB s = false := by rw [parB, decide_eq_false h0]; rfl
      exact ⟨this, by rw [parP, this]; rfl, by rw [parQ, this]; rfl⟩
    have E2 := Lib.hid e2
    clear e2
    by_cases hz : s.size = 0
    · have c3 : (s.size : Int) = 0 := by omega
      go_enter Tryz.func19, Tryz.ntmps19
      go_wp2
      rw [E2.out.1, E2.out.2.1, E2.out.2.2]
      refine bodyPost_ret (v := .tuple #[.agg #[.slice none 0 0, .slice none 0 0], .int .i64 1]) ?_ rfl ⟨_, _, rfl, ss_nil _, ps_nil _, ?_⟩
      · rw [results_cell_tmp rfl]
        go_simp
      · exact (Below.refl _ _).alloc (Nat.le_refl _) _
    · have c2 : ¬ bt s 0 = 47 := fun h => h0 ⟨hz, h⟩
      have c3 : ¬ (s.size : Int) = 0 := by omega
      have c4 : ((s.size : Int) == 0) = false := by simpa using c3
      have c5 : (0 : Int) < (s.size : Int) := by omega
      have c6 : (bt s 0 == 47) = false := by simpa using c2
      go_enter Tryz.func19, Tryz.ntmps19
      go_wp2
      rw [E2.out.1, E2.out.2.1, E2.out.2.2]
      refine bodyPost_ret (v := .tuple #[.agg #[.slice none 0 0, .slice none 0 0], .int .i64 1]) ?_ rfl ⟨_, _, rfl, ss_nil _, ps_nil _, ?_⟩
      · rw [results_cell_tmp rfl]
        go_simp
      · exact (Below.refl _ _).alloc (Nat.le_refl _) _
end Go.Proofs.YthigandmemifoaaGreatDoor

namespace Go.Proofs.YthigandmemifoaaGreatDoor
open Go.RowKit Go.PlainAid
set_option maxRecDepth 100000

/-- those of the first k that match, in their order -/
def alF (ls : List (List Sg)) (path : List ByteArray) : Nat → List Nat
  | 0 => []
  | k + 1 => if mtB (ls.getD k default) path = true then (alF ls path k).filter (fun i => decide (cW ls i k < 0)) ++ k :: (alF ls path k).filter (fun i => !decide (cW ls i k < 0)) else alF ls path k
theorem alF_ok (ls : List (List Sg)) (path : List ByteArray) : ∀ k : Nat, (alF ls path k).Pairwise (fun i j => cW ls i j < 0) ∧ ∀ i, i ∈ alF ls path k ↔ i < k ∧ mtB (ls.getD i default) path = true := by
  intro k
  induction k with
  | zero => exact ⟨List.Pairwise.nil, fun i => by simp [alF]⟩
  | succ k ih =>
    obtain ⟨h1, h2⟩ := ih
    by_cases hm : mtB (ls.getD k default) path = true
    · rw [alF, if_pos hm]
      generalize alF ls path k = al at *
      refine ⟨?_, fun i => ?_⟩
      · have hk : ∀ b ∈ al.filter (fun i => !decide (cW ls i k < 0)), cW ls k b < 0 := by
          intro b hb
          rw [List.mem_filter] at hb
          have hb1 := ((h2 b).1 hb.1).1
          have hb2 : ¬ cW ls b k < 0 := by simpa using hb.2
          have hz := ((tcW ls).zero b k).1
          have ha := (tcW ls).anti b k
          have hne : cW ls b k ≠ 0 := fun e => by have := hz e; omega
          omega
        rw [List.pairwise_append]
        refine ⟨h1.filter _, List.pairwise_cons.2 ⟨hk, h1.filter _⟩, fun a ha b hb => ?_⟩
        rw [List.mem_filter] at ha
        have ha2 : cW ls a k < 0 := by simpa using ha.2
        rw [List.mem_cons] at hb
        rcases hb with rfl | hb
        · exact ha2
        · have := hk b hb
          exact (tcW ls).lt_of_lt_le ha2 (by omega)
      · rw [List.mem_append, List.mem_cons, List.mem_filter, List.mem_filter]
        constructor
        · rintro (⟨h, _⟩ | rfl | ⟨h, _⟩)
          · have := (h2 i).1 h; exact ⟨by omega, this.2⟩
          · exact ⟨by omega, hm⟩
          · have := (h2 i).1 h; exact ⟨by omega, this.2⟩
        · rintro ⟨h3, h4⟩
          by_cases e : i = k
          · exact Or.inr (Or.inl e)
          · have h5 := (h2 i).2 ⟨by omega, h4⟩
            by_cases e2 : cW ls i k < 0
            · exact Or.inl ⟨h5, by simpa using e2⟩
            · exact Or.inr (Or.inr ⟨h5, by simpa using e2⟩)
    · rw [alF, if_neg hm]
      refine ⟨h1, fun i => ?_⟩
      rw [h2]
      constructor
      · rintro ⟨h3, h4⟩; exact ⟨by omega, h4⟩
      · rintro ⟨h3, h4⟩
        refine ⟨?_, h4⟩
        by_cases e : i = k
        · subst e; exact absurd h4 hm
        · omega

/-- the records whose full patterns match, in their order; none, if the records aren't right -/
def fdA (l : List Rc) (path : List ByteArray) : List Nat := if rtB l then alF (fusL l l.length) path l.length else []
def fdI (l : List Rc) (path : List ByteArray) : Int := aN (fdA l path)
def fdL (l : List Rc) (path : List ByteArray) : List Pr := aL (fusL l l.length) path (fdA l path)
def fdB (l : List Rc) (path : List ByteArray) : Bool := !(fdA l path).isEmpty
theorem fdA_all (l : List Rc) (path : List ByteArray) (h : rtB l = true) : AllN (fusL l l.length) path (fdA l path) := by
  have := alF_ok (fusL l l.length) path l.length
  rw [fdA, if_pos h]
  exact ⟨this.1, fun i => by rw [this.2 i, fus_len]⟩
theorem fd_yes {l : List Rc} {path : List ByteArray} (h : fdB l path = true) : rtB l = true ∧ ∃ k : Nat, fdI l path = (k : Int) ∧ k < l.length ∧ mtB (fuL l (k : Nat)) path = true ∧ fdL l path = mtL (fuL l (k : Nat)) path := by
  have hr : rtB l = true := by
    cases hb : rtB l with
    | true => rfl
    | false => rw [fdB, fdA, hb] at h; simp at h
  refine ⟨hr, ?_⟩
  have ha := fdA_all l path hr
  unfold fdB at h
  unfold fdI fdL
  cases hd : fdA l path with
  | nil => rw [hd] at h; simp at h
  | cons k r =>
    rw [hd] at ha
    have hk := (ha.2 k).1 (by simp)
    rw [fus_len] at hk
    have e : (fusL l l.length).getD k default = fuL l (k : Nat) := by
      simp [fusL, List.getD, hk.1]
    rw [e] at hk
    exact ⟨k, rfl, hk.1, hk.2, by rw [aL, e]⟩
theorem fd_no {l : List Rc} {path : List ByteArray} (h : fdB l path = false) : fdI l path = -1 ∧ fdL l path = [] := by
  unfold fdB at h
  unfold fdI fdL
  cases hd : fdA l path with
  | nil => exact ⟨rfl, rfl⟩
  | cons k r => rw [hd] at h; simp at h

/-- a place -/
structure Pl where
  p : List ByteArray
  q : List Pr
  i : Int
  c : List Nat
  m : List Pr
  h : Int
def zPl : Pl := ⟨[], [], 0, [], [], 0⟩
/-- the place that has a URL, whatever its rules say -/
def fdP (l : List Rc) (p : List ByteArray) (q : List Pr) : Pl := if fdB l p then ⟨p, q, fdI l p, chL l (fdI l p), fdL l p, 0⟩ else zPl
def flB (l : List Rc) (s : ByteArray) : Bool := rvB l s [] && fdB l (rvL l s [])
def flP (l : List Rc) (s : ByteArray) : Pl := if rvB l s [] then fdP l (rvL l s []) [] else zPl
def rlR (r : Rc) : Rl := ⟨r.rk, r.rf, r.rt⟩
/-- what the rules at these places say -/
def syL (l : List Rc) (n : Nat) (g : Nat → Bool) : List Nat → Int × ByteArray
  | [] => (0, ⟨#[]⟩)
  | k :: c => if sayI (l.getD k default).rk (fsB n g (l.getD k default).rf) = 0 then syL l n g c else (sayI (l.getD k default).rk (fsB n g (l.getD k default).rf), toT (l.getD k default).rk (fsB n g (l.getD k default).rf) (l.getD k default).rt)
/-- the way from a place on -/
def goL (l : List Rc) (n : Nat) (g : Nat → Bool) : Nat → Bool → Pl → Int → Int × Pl
  | 0, _, _, _ => (2, zPl)
  | f + 1, ok, pl, h => if ok = false then (2, zPl) else if (syL l n g pl.c).1 = 0 then (0, { pl with h := h }) else if (syL l n g pl.c).1 = 1 then (3, zPl) else if h = 5 then (4, zPl) else goL l n g f (flB l (syL l n g pl.c).2) (flP l (syL l n g pl.c).2) (h + 1)
/-- where one arrives who sets out for a path -/
def goM (l : List Rc) (n : Nat) (g : Nat → Bool) (p : List ByteArray) (q : List Pr) : Int × Pl := goL l n g 6 (fdB l p) (fdP l p q) 0
/-- where one arrives who sets out for a text -/
def goS (l : List Rc) (n : Nat) (g : Nat → Bool) (s : ByteArray) : Int × Pl := if parB s then goM l n g (parP s) (parQ s) else (1, zPl)

theorem say_range (k : Int) (s : Bool) : sayI k s = 0 ∨ sayI k s = 1 ∨ sayI k s = 2 := by
  unfold sayI
  split <;> (try split) <;> (try split) <;> (try split) <;> (try split) <;> simp
theorem sy_range (l : List Rc) (n : Nat) (g : Nat → Bool) (c : List Nat) : (syL l n g c).1 = 0 ∨ (syL l n g c).1 = 1 ∨ (syL l n g c).1 = 2 := by
  induction c with
  | nil => exact Or.inl rfl
  | cons k c ih =>
    rw [syL]
    split
    · exact ih
    · exact say_range _ _
/-- what the list says is what its rules say -/
theorem sy_all (l : List Rc) (n : Nat) (g : Nat → Bool) (gr : Nat → Rl) : ∀ (c : List Nat), (∀ i, i < c.length → gr i = rlR (l.getD (c.getD i 0) default)) → ∀ (a : Int) (x : ByteArray) (p : Int), AllP c.length (syF gr n g) (txF gr n g) a x p → syL l n g c = (a, x) := by
  intro c
  induction c generalizing gr with
  | nil =>
    intro _ a x p h
    rcases h with ⟨_, rfl, rfl, _⟩ | ⟨i, hi, _⟩
    · rfl
    · simp at hi
  | cons k c ih =>
    intro hg a x p h
    have h0 := hg 0 (by simp)
    have e0 : (k :: c).getD 0 0 = k := rfl
    rw [e0] at h0
    have hs : syF gr n g 0 = sayI (l.getD k default).rk (fsB n g (l.getD k default).rf) := by unfold syF; rw [h0]; rfl
    have ht : txF gr n g 0 = toT (l.getD k default).rk (fsB n g (l.getD k default).rf) (l.getD k default).rt := by unfold txF; rw [h0]; rfl
    have hg' : ∀ i, i < c.length → gr (i + 1) = rlR (l.getD (c.getD i 0) default) := fun i hi => by
      have := hg (i + 1) (by simp; omega)
      simpa using this
    have ih := ih (fun i => gr (i + 1)) hg'
    rw [syL, ← hs, ← ht]
    rcases h with ⟨rfl, rfl, rfl, h⟩ | ⟨i, hi, rfl, rfl, rfl, h1, h2⟩
    · rw [if_pos (h 0 (by simp))]
      exact ih 0 ⟨#[]⟩ (-1) (Or.inl ⟨rfl, rfl, rfl, fun i hi => h (i + 1) (by simp; omega)⟩)
    · cases i with
      | zero => rw [if_neg h1]
      | succ i =>
        rw [if_pos (h2 0 (by omega))]
        exact ih _ _ (i : Int) (Or.inr ⟨i, by simpa using hi, rfl, rfl, rfl, h1, fun j hj => h2 (j + 1) (by omega)⟩)
end Go.Proofs.YthigandmemifoaaGreatDoor
