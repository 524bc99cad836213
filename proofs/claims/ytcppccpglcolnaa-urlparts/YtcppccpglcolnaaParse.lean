/-
  url.Parse.
-/
import Derived.Test.YtcppccpglcolnaaQuery
import Derived.Test.YtcppccpglcolnaaRight
namespace Go.Proofs.Ytcppccpglcolnaa
open Go.RowKit Go.PlainAid

def hv0 (s : ByteArray) : ByteArray := (spl 63 s).getD 0 default
def hvs1 (s : ByteArray) : List ByteArray := (spl 63 s).drop 1
def parB (s : ByteArray) : Bool := decide (s.size ≠ 0 ∧ bt s 0 = 47) && (splB 63 2 s && (rpB (hv0 s) && (rqB (hvs1 s) && rightB (rpL (hv0 s)) (rqL (hvs1 s)))))
def parP (s : ByteArray) : List ByteArray := if parB s then rpL (hv0 s) else []
def parQ (s : ByteArray) : List Pr := if parB s then rqL (hvs1 s) else []
def erI (b : Bool) : Int := if b then 0 else 1

theorem hv0_size (s : ByteArray) (h0 : s.size ≠ 0) (h : bt s 0 = 47) : 1 ≤ (hv0 s).size ∧ (hv0 s).size ≤ s.size := by
  refine ⟨?_, spl_size 63 s _ (getD_mem _ _ (spl_ne 63 s))⟩
  have hl := bs_len s
  rw [hv0, spl]
  rw [← bs_at] at h
  match hb : bs s, h with
  | [], _ => rw [hb] at hl; simp at hl; omega
  | c :: r, h =>
    rw [hb] at hl
    simp [List.getD] at h
    rw [splL, if_neg (by omega)]
    split
    · simp [List.getD, st_size]
    · simp [List.getD, st_size]

theorem Ss.shape {w : World} {v : Value} {l : List ByteArray} (h : Ss w v l) : ∃ A n c, v = .slice A n c := by
  obtain ⟨A, cap, e, _⟩ := h
  exact ⟨_, _, _, e⟩
theorem Ps.shape {w : World} {v : Value} {l : List Pr} (h : Ps w v l) : ∃ A n c, v = .slice A n c := by
  obtain ⟨A, cap, e, _⟩ := h
  exact ⟨_, _, _, e⟩

theorem no_str {cs : Array Value} {A B : Option Addr} {n m c d i : Nat} {s : ByteArray} (h : cs = #[.slice A n c, .slice B m d]) (hc : cs[i]? = some (.string s)) : False := by
  subst h
  match i with
  | 0 => simp at hc
  | 1 => simp at hc
  | i + 2 => simp at hc
theorem set2_cell (w : World) (b : Nat) (x y : Value) (p : Addr) (hp : p.block ≠ b) : ((w.setCell ⟨b, 0, none⟩ x).setCell ⟨b, 1, none⟩ y).cell? p = w.cell? p := by
  rw [World.cell?_of_block (w := w.setCell ⟨b, 0, none⟩ x) (Below.heap_setCell _ _ _ _ hp), World.cell?_of_block (w := w) (Below.heap_setCell _ _ _ _ hp)]
/-- a block of two slices holds no text: it may be written -/
theorem Ss.set2 {w : World} {v : Value} {l : List ByteArray} (h : Ss w v l) {b : Nat} {A B : Option Addr} {n m c d : Nat} {t : TypeId} (hk : w.heap[b]? = some (.cells #[.slice A n c, .slice B m d] t (0, 0))) (x y : Value) : Ss ((w.setCell ⟨b, 0, none⟩ x).setCell ⟨b, 1, none⟩ y) v l := by
  obtain ⟨A', cap, h1, h2, h3, h4⟩ := h
  refine ⟨A', cap, h1, h2, h3, fun i hi => ?_⟩
  obtain ⟨b', o, ha, hc⟩ := h4 i hi
  refine ⟨b', o, ha, ?_⟩
  rw [set2_cell _ _ _ _ _ ?_]
  · exact hc
  · intro e
    have e : b' = b := e
    subst e
    rw [blk_cell hk] at hc
    exact no_str rfl hc
theorem Ps.set2 {w : World} {v : Value} {l : List Pr} (h : Ps w v l) {b : Nat} {A B : Option Addr} {n m c d : Nat} {t : TypeId} (hk : w.heap[b]? = some (.cells #[.slice A n c, .slice B m d] t (0, 0))) (x y : Value) : Ps ((w.setCell ⟨b, 0, none⟩ x).setCell ⟨b, 1, none⟩ y) v l := by
  obtain ⟨A', cap, h1, h2, h3, h4⟩ := h
  refine ⟨A', cap, h1, h2, h3, fun i hi => ?_⟩
  obtain ⟨b', o, ha, hc, hd⟩ := h4 i hi
  have hne : b' ≠ b := by
    intro e
    subst e
    rw [blk_cell hk] at hc
    exact no_str rfl hc
  exact ⟨b', o, ha, by rw [set2_cell _ _ _ _ _ hne]; exact hc, by rw [set2_cell _ _ _ _ _ hne]; exact hd⟩

/-- the rest of a slice -/
theorem ss_tail {w : World} {b o n cap : Nat} {l : List ByteArray} (hl : l.length = n + 1) (h : Ss w (.slice (some ⟨b, o, none⟩) l.length cap) l) (A : Option Addr) (hA : A = some ⟨b, o, none⟩ ∧ cap = 1 ∨ A = some ⟨b, o + 1, none⟩) : Ss w (.slice A n (cap - 1)) (l.drop 1) := by
  obtain ⟨A', cap', e, h1, h2, h3⟩ := h
  simp only [Value.slice.injEq] at e
  obtain ⟨rfl, _, rfl⟩ := e
  have hd : (l.drop 1).length = n := by simp; omega
  refine ⟨A, cap - 1, by rw [hd], by omega, ?_, fun i hi => ?_⟩
  · intro h; rcases hA with ⟨h', _⟩ | h' <;> rw [h'] at h <;> cases h
  · obtain ⟨b', o', e, hc⟩ := h3 (i + 1) (by omega)
    cases e
    rcases hA with ⟨_, h'⟩ | h'
    · omega
    · refine ⟨b, o + 1, h', ?_⟩
      have e2 : o + 1 + i = o + (i + 1) := by omega
      rw [e2, hc]
      simp

set_option maxHeartbeats 1600000 in
theorem parse9 (s : ByteArray) (w : World) (hs : s.size ≤ 10000) :
    Calls Try.prog 9 #[.string s] w fun e w' => ∃ v1 v2, e = .returned (.tuple #[.agg #[v1, v2], .int .i64 (erI (parB s))]) ∧ Ss w' v1 (parP s) ∧ Ps w' v2 (parQ s) ∧ Below w.heap.size w w' := by
  have gb := get_bt s
  by_cases h0 : s.size ≠ 0 ∧ bt s 0 = 47
  · by_cases hB : splB 63 2 s = true
    · have e0 : parB s = (rpB (hv0 s) && (rqB (hvs1 s) && rightB (rpL (hv0 s)) (rqL (hvs1 s)))) := by rw [parB, decide_eq_true h0, hB]; rfl
      have E0 := Lib.hid e0
      clear e0
      obtain ⟨hz1, hz2⟩ := hv0_size s h0.1 h0.2
      obtain ⟨c1, c2⟩ := h0
      have c3 : ¬ (s.size : Int) = 0 := by omega
      have c4 : ((s.size : Int) == 0) = false := by simpa using c3
      have c5 : (0 : Int) < (s.size : Int) := by omega
      go_enter Try.func9, Try.ntmps9
      go_wp2_with fail
      have HK := Lib.hid (blk_new w (.cells #[.slice none 0 0, .slice none 0 0] 25 (0, 0)))
      have HB := Lib.hid ((Below.refl w.heap.size w).alloc (Nat.le_refl _) (.cells #[.slice none 0 0, .slice none 0 0] 25 (0, 0)))
      generalize w.alloc (.cells #[.slice none 0 0, .slice none 0 0] 25) = w5 at *
      refine (split23 _ _ 2 _ hs (by omega)).mono ?_
      rintro e w1 ⟨v1, rfl, h1⟩
      rw [hB]
      have hl : splM 63 2 s = spl 63 s := by rw [splM, if_pos (of_decide_eq_true hB)]
      have hl1 : (spl 63 s).length ≤ 2 := of_decide_eq_true hB
      rw [hl] at h1
      have hl2 := spl_ne 63 s
      obtain ⟨A, cap, rfl, hcap, _, hc⟩ := h1.ss
      obtain ⟨b, o, rfl, hc0⟩ := hc 0 hl2
      rw [Nat.add_zero] at hc0
      have e2 : (spl 63 s).getD 0 default = hv0 s := rfl
      rw [e2] at hc0
      have H1 := Lib.hid h1
      clear h1 hc hl e2
      have c6 : (0 : Int) < ((spl 63 s).length : Int) := by omega
      have c7 : (1 : Int) ≤ ((spl 63 s).length : Int) := by omega
      obtain ⟨A, hA, hA'⟩ : ∃ A : Option Addr, (if cap = 1 then some (⟨b, o, none⟩ : Addr) else some ⟨b, o + 1, none⟩) = A ∧ (A = some ⟨b, o, none⟩ ∧ cap = 1 ∨ A = some ⟨b, o + 1, none⟩) := by
        by_cases h : cap = 1
        · exact ⟨_, if_pos h, Or.inl ⟨rfl, h⟩⟩
        · exact ⟨_, if_neg h, Or.inr rfl⟩
      have HA := Lib.hid hA'
      clear hA'
      go_wp2_with (first | (go_at_call 24; refine (readPath24 _ _ (by omega) hz1).mono ?_; rintro e w2 ⟨v2, rfl, h2, h3⟩; have H2 := Lib.hid h2; have H3 := Lib.hid h3; clear h2 h3))
      have hts : Ss w2 (.slice A ((spl 63 s).length - 1) (cap - 1)) (hvs1 s) := (ss_tail (n := (spl 63 s).length - 1) (by omega) H1.out.ss A HA.out).call H3.out
      refine (readQuery25 _ _ _ hts (fun p hp => by have := spl_size 63 s p (List.mem_of_mem_drop hp); omega)).mono ?_
      rintro e w3 ⟨v3, rfl, h4, h5⟩
      clear hts
      have hb3 : Below w5.heap.size w5 w3 := (H1.out.2.1.trans (H3.out.mono H1.out.2.2)).trans (h5.mono (by have := H1.out.2.2; have := H3.out.size; omega))
      have hs2 : Ss w3 v2 (rpL (hv0 s)) := H2.out.call h5
      have H4 := Lib.hid h4
      have HB3 := Lib.hid hb3
      have HS2 := Lib.hid hs2
      clear h4 h5 hb3 hs2 H2 H3 H1 HA
      have hk3 := blk_call HK.out HB3.out
      have HB6 := Lib.hid (HB.out.trans (HB3.out.mono HB.out.size))
      have hlt3 : w.heap.size < w3.heap.size := blk_lt hk3
      obtain ⟨A2, n2, p2, rfl⟩ := HS2.out.shape
      obtain ⟨A3, n3, p3, rfl⟩ := H4.out.shape
      by_cases q1 : rpB (hv0 s) = true
      · by_cases q2 : rqB (hvs1 s) = true
        · have e1 : parB s = rightB (rpL (hv0 s)) (rqL (hvs1 s)) := by rw [E0.out, q1, q2]; rfl
          have E1 := Lib.hid e1
          clear e1
          have HK3 := Lib.hid (blk_alloc hk3 (.cells #[.slice A2 n2 p2, .slice A3 n3 p3] 25 (0, 0)))
          have HN3 := Lib.hid (blk_new w3 (.cells #[.slice A2 n2 p2, .slice A3 n3 p3] 25 (0, 0)))
          have HBn := Lib.hid ((Below.refl w3.heap.size w3).alloc (Nat.le_refl _) (.cells #[.slice A2 n2 p2, .slice A3 n3 p3] 25 (0, 0)))
          clear hk3
          by_cases q3 : rightB (rpL (hv0 s)) (rqL (hvs1 s)) = true
          · have e2 : parB s = true ∧ parP s = rpL (hv0 s) ∧ parQ s = rqL (hvs1 s) := by
              have : parB s = true := by rw [E1.out, q3]
              exact ⟨this, by rw [parP, if_pos this], by rw [parQ, if_pos this]⟩
            have E2 := Lib.hid e2
            clear e2
            go_wp2_with fail
            generalize w3.alloc (.cells #[.slice A2 n2 p2, .slice A3 n3 p3] 25) = w7 at *
            refine (right16 _ _ _ _ _ (HS2.out.call HBn.out) (H4.out.call HBn.out)).mono ?_
            rintro e w8 ⟨rfl, h8⟩
            rw [q3]
            have HB8 := Lib.hid (HBn.out.trans (h8.mono HBn.out.size))
            have HK8 := Lib.hid (blk_call HK3.out h8)
            obtain ⟨k0, k1, k2, k3⟩ := blk2 HK8.out
            obtain ⟨k4, k5, k6, k7⟩ := blk2 (blk_call HN3.out h8)
            clear h8
            have hne : w3.heap.size ≠ w.heap.size := by omega
            go_wp2
            rw [E2.out.1, E2.out.2.1, E2.out.2.2]
            refine bodyPost_ret (v := .tuple #[.agg #[.slice A2 n2 p2, .slice A3 n3 p3], .int .i64 0]) ?_ rfl ⟨_, _, rfl, ?_, ?_, ?_⟩
            · rw [results_cell_tmp rfl]
              go_simp
            · exact (HS2.out.call HB8.out).set2 HK8.out _ _
            · exact (H4.out.call HB8.out).set2 HK8.out _ _
            · exact ((HB6.out.trans (HB8.out.mono (by omega))).setCell (Nat.le_refl _) _).setCell (Nat.le_refl _) _
          · have q3 : rightB (rpL (hv0 s)) (rqL (hvs1 s)) = false := by simpa using q3
            have e2 : parB s = false ∧ parP s = [] ∧ parQ s = [] := by
              have : parB s = false := by rw [E1.out, q3]
              exact ⟨this, by rw [parP, this]; rfl, by rw [parQ, this]; rfl⟩
            have E2 := Lib.hid e2
            clear e2
            go_wp2_with fail
            generalize w3.alloc (.cells #[.slice A2 n2 p2, .slice A3 n3 p3] 25) = w7 at *
            refine (right16 _ _ _ _ _ (HS2.out.call HBn.out) (H4.out.call HBn.out)).mono ?_
            rintro e w8 ⟨rfl, h8⟩
            rw [q3]
            have HB8 := Lib.hid (HBn.out.trans (h8.mono HBn.out.size))
            obtain ⟨k0, k1, k2, k3⟩ := blk2 (blk_call HK3.out h8)
            clear h8
            go_wp2
            rw [E2.out.1, E2.out.2.1, E2.out.2.2]
            refine bodyPost_ret (v := .tuple #[.agg #[.slice none 0 0, .slice none 0 0], .int .i64 1]) ?_ rfl ⟨_, _, rfl, ss_nil _, ps_nil _, ?_⟩
            · rw [results_cell_tmp rfl]
              go_simp
            · exact ((HB6.out.trans (HB8.out.mono (by omega))).setCell (Nat.le_refl _) _).setCell (Nat.le_refl _) _
        · have q2 : rqB (hvs1 s) = false := by simpa using q2
          have e2 : parB s = false ∧ parP s = [] ∧ parQ s = [] := by
            have : parB s = false := by rw [E0.out, q2]; simp
            exact ⟨this, by rw [parP, this]; rfl, by rw [parQ, this]; rfl⟩
          have E2 := Lib.hid e2
          clear e2
          obtain ⟨k0, k1, k2, k3⟩ := blk2 hk3
          clear hk3
          go_wp2
          rw [E2.out.1, E2.out.2.1, E2.out.2.2]
          refine bodyPost_ret (v := .tuple #[.agg #[.slice none 0 0, .slice none 0 0], .int .i64 1]) ?_ rfl ⟨_, _, rfl, ss_nil _, ps_nil _, ?_⟩
          · rw [results_cell_tmp rfl]
            go_simp
          · exact ((HB6.out.setCell (Nat.le_refl _) _).setCell (Nat.le_refl _) _).alloc (by simp [World.setCell]; omega) _
      · have q1 : rpB (hv0 s) = false := by simpa using q1
        have e2 : parB s = false ∧ parP s = [] ∧ parQ s = [] := by
          have : parB s = false := by rw [E0.out, q1]; simp
          exact ⟨this, by rw [parP, this]; rfl, by rw [parQ, this]; rfl⟩
        have E2 := Lib.hid e2
        clear e2
        obtain ⟨k0, k1, k2, k3⟩ := blk2 hk3
        clear hk3
        go_wp2
        rw [E2.out.1, E2.out.2.1, E2.out.2.2]
        refine bodyPost_ret (v := .tuple #[.agg #[.slice none 0 0, .slice none 0 0], .int .i64 1]) ?_ rfl ⟨_, _, rfl, ss_nil _, ps_nil _, ?_⟩
        · rw [results_cell_tmp rfl]
          go_simp
        · exact ((HB6.out.setCell (Nat.le_refl _) _).setCell (Nat.le_refl _) _).alloc (by simp [World.setCell]; omega) _
    · have hB : splB 63 2 s = false := by simpa using hB
      have e2 : parB s = false ∧ parP s = [] ∧ parQ s = [] := by
        have : parB s = false := by rw [parB, hB]; simp
        exact ⟨this, by rw [parP, this]; rfl, by rw [parQ, this]; rfl⟩
      have E2 := Lib.hid e2
      clear e2
      obtain ⟨c1, c2⟩ := h0
      have c3 : ¬ (s.size : Int) = 0 := by omega
      have c4 : ((s.size : Int) == 0) = false := by simpa using c3
      have c5 : (0 : Int) < (s.size : Int) := by omega
      go_enter Try.func9, Try.ntmps9
      go_wp2_with fail
      have HK := Lib.hid (blk_new w (.cells #[.slice none 0 0, .slice none 0 0] 25 (0, 0)))
      have HB := Lib.hid ((Below.refl w.heap.size w).alloc (Nat.le_refl _) (.cells #[.slice none 0 0, .slice none 0 0] 25 (0, 0)))
      generalize w.alloc (.cells #[.slice none 0 0, .slice none 0 0] 25) = w5 at *
      refine (split23 _ _ 2 _ hs (by omega)).mono ?_
      rintro e w1 ⟨v1, rfl, h1⟩
      rw [hB]
      obtain ⟨k0, k1, k2, k3⟩ := blk2 (blk_call HK.out h1.2.1)
      have HB8 := Lib.hid (HB.out.trans (h1.2.1.mono HB.out.size))
      clear h1
      go_wp2
      rw [E2.out.1, E2.out.2.1, E2.out.2.2]
      refine bodyPost_ret (v := .tuple #[.agg #[.slice none 0 0, .slice none 0 0], .int .i64 1]) ?_ rfl ⟨_, _, rfl, ss_nil _, ps_nil _, ?_⟩
      · rw [results_cell_tmp rfl]
        go_simp
      · exact (HB8.out.setCell (Nat.le_refl _) _).setCell (Nat.le_refl _) _
  · have e2 : parB s = false ∧ parP s = [] ∧ parQ s = [] := by
      have : parB s = false := by rw [parB, decide_eq_false h0]; rfl
      exact ⟨this, by rw [parP, this]; rfl, by rw [parQ, this]; rfl⟩
    have E2 := Lib.hid e2
    clear e2
    by_cases hz : s.size = 0
    · have c3 : (s.size : Int) = 0 := by omega
      go_enter Try.func9, Try.ntmps9
      go_wp2
      rw [E2.out.1, E2.out.2.1, E2.out.2.2]
      refine bodyPost_ret (v := .tuple #[.agg #[.slice none 0 0, .slice none 0 0], .int .i64 1]) ?_ rfl ⟨_, _, rfl, ss_nil _, ps_nil _, ?_⟩
      · rw [results_cell_tmp rfl]
        go_simp
      · exact (Below.refl _ _).alloc (Nat.le_refl _) _
    · have c2 : ¬ bt s 0 = 47 := fun h => h0 ⟨hz, h⟩
      have c3 : ¬ (s.size : Int) = 0 := by omega
      have c4 : ((s.size : Int) == 0) = false := by simpa using c3
      have c5 : (0 : Int) < (s.size : Int) := by omega
      have c6 : (bt s 0 == 47) = false := by simpa using c2
      go_enter Try.func9, Try.ntmps9
      go_wp2
      rw [E2.out.1, E2.out.2.1, E2.out.2.2]
      refine bodyPost_ret (v := .tuple #[.agg #[.slice none 0 0, .slice none 0 0], .int .i64 1]) ?_ rfl ⟨_, _, rfl, ss_nil _, ps_nil _, ?_⟩
      · rw [results_cell_tmp rfl]
        go_simp
      · exact (Below.refl _ _).alloc (Nat.le_refl _) _
end Go.Proofs.Ytcppccpglcolnaa
