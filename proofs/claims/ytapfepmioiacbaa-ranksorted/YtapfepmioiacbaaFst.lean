/-
  Slices of patterns, as they are read; rank's First.
-/
import Derived.Test.YtapfepmioiacbaaCmp
namespace Go.Proofs.Ytapfepmioiacbaa
open Go.RowKit Go.PlainAid

/-- the slice holds these patterns -/
def Gss (w : World) (v : Value) (ls : List (List Sg)) : Prop :=
  ∃ A cap, v = .slice A ls.length cap ∧ ls.length ≤ cap ∧ (A = none → cap = 0) ∧ ∀ i, i < ls.length → ∃ b o u, A = some ⟨b, o, none⟩ ∧ w.cell? ⟨b, o + i, none⟩ = some u ∧ Gs w u (ls.getD i default)
theorem Gss.call {w w' : World} {v : Value} {ls : List (List Sg)} (h : Gss w v ls) (hb : Below w.heap.size w w') : Gss w' v ls := by
  obtain ⟨A, cap, h1, h2, h3, h4⟩ := h
  refine ⟨A, cap, h1, h2, h3, fun i hi => ?_⟩
  obtain ⟨b, o, u, ha, hc, hd⟩ := h4 i hi
  exact ⟨b, o, u, ha, by rw [hb.cell (World.block_lt_of_cell? w _ hc)]; exact hc, hd.call hb⟩
theorem Gss.drN {w w' : World} {v : Value} {ls : List (List Sg)} (h : Gss w v ls) (hw : ∃ q, w' = w.drewN q) : Gss w' v ls := by
  obtain ⟨q, rfl⟩ := hw
  exact h
theorem gss_nil (w : World) : Gss w (.slice none 0 0) [] := ⟨none, 0, rfl, by simp, fun _ => rfl, fun i hi => by simp at hi⟩
theorem Gss.shape {w : World} {v : Value} {ls : List (List Sg)} (h : Gss w v ls) : ∃ A n c, v = .slice A n c := by
  obtain ⟨A, cap, e, _⟩ := h
  exact ⟨_, _, _, e⟩
/-- all are of a length that a slice may have -/
def Few (ls : List (List Sg)) : Prop := ∀ l ∈ ls, l.length ≤ 1000000000
theorem Few.at {ls : List (List Sg)} (h : Few ls) (i : Nat) : (ls.getD i default).length ≤ 1000000000 := by
  by_cases hi : i < ls.length
  · exact h _ (getD_mem ls i hi)
  · have : ls.getD i default = [] := by simp [List.getD, List.getElem?_eq_none (show ls.length ≤ i by omega)]; rfl
    rw [this]
    simp

/-- the first of the first k -/
def fi (ls : List (List Sg)) : Nat → Int
  | 0 => -1
  | k + 1 => if fi ls k < 0 ∨ cP (ls.getD k default) (ls.getD (fi ls k).toNat default) < 0 then k else fi ls k
theorem fi_bd (ls : List (List Sg)) (k : Nat) : (k = 0 ∧ fi ls k = -1) ∨ (0 < k ∧ 0 ≤ fi ls k ∧ fi ls k < k) := by
  induction k with
  | zero => left; exact ⟨rfl, rfl⟩
  | succ k ih =>
    right
    rw [fi]
    split <;> omega
/-- it goes ahead of all, or is alike; of those ahead of it in the row it goes ahead -/
theorem fi_min (ls : List (List Sg)) (k : Nat) (hk : 0 < k) : ∀ j, j < k → cP (ls.getD (fi ls k).toNat default) (ls.getD j default) ≤ 0 ∧ ((j : Int) < fi ls k → cP (ls.getD (fi ls k).toNat default) (ls.getD j default) < 0) := by
  induction k with
  | zero => omega
  | succ k ih =>
    intro j hj
    have hb := fi_bd ls k
    by_cases h0 : k = 0
    · subst h0
      obtain rfl : j = 0 := by omega
      have e : fi ls (0 + 1) = 0 := by rw [fi, if_pos (Or.inl (by show (-1 : Int) < 0; decide))]; rfl
      rw [e]
      exact ⟨by rw [show (0 : Int).toNat = 0 from rfl, tcP.refl]; decide, fun h => by omega⟩
    · have ih := ih (by omega)
      by_cases hc : fi ls k < 0 ∨ cP (ls.getD k default) (ls.getD (fi ls k).toNat default) < 0
      · have e : fi ls (k + 1) = k := by rw [fi, if_pos hc]
        have hc : cP (ls.getD k default) (ls.getD (fi ls k).toNat default) < 0 := by omega
        rw [e, show (k : Int).toNat = k from rfl]
        by_cases hjk : j = k
        · subst hjk
          exact ⟨by rw [tcP.refl]; decide, fun h => by omega⟩
        · have := tcP.lt_of_lt_le hc (ih j (by omega)).1
          exact ⟨by omega, fun _ => this⟩
      · have e : fi ls (k + 1) = fi ls k := by rw [fi, if_neg hc]
        rw [e]
        by_cases hjk : j = k
        · subst hjk
          have := tcP.anti (ls.getD j default) (ls.getD (fi ls j).toNat default)
          exact ⟨by omega, fun h => by omega⟩
        · exact ih j (by omega)

set_option maxHeartbeats 1600000 in
theorem first9 (v : Value) (ls : List (List Sg)) (w : World) (h : Gss w v ls) (hz : ls.length ≤ 1000000000) (hf : Few ls) :
    Calls Try.prog 9 #[v] w fun e w' => e = .returned (.int .i64 (fi ls ls.length)) ∧ ∃ q, w' = w.drewN q := by
  obtain ⟨A, cap, rfl, _, _, hc⟩ := h
  have HC := Lib.hid hc
  clear hc
  generalize hV : fi ls ls.length = V
  have HV := Lib.hid hV
  clear hV
  go_enter Try.func9, Try.ntmps9
  go_wp2_with fail
  go_loopw [3, 8] (fun f i wr => ∃ (k : Nat), k ≤ ls.length ∧ i = .int .i64 k ∧ f = .int .i64 (fi ls k) ∧ Hid (∃ q, wr = w.drewN q)) (fun _ i _ => ls.length - (intOf i).toNat)
  case atStart => exact ⟨0, Nat.zero_le _, rfl, rfl, 0, rfl⟩
  case round =>
    obtain ⟨k, hk, rfl, rfl, hw⟩ := hrel
    by_cases hlt : k < ls.length
    · have d0 : (k : Int) < (ls.length : Int) := by omega
      obtain ⟨x, o, u, rfl, hcell, hu⟩ := HC.out k hlt
      have g1 : wr.cell? ⟨x, o + k, none⟩ = some u := by rw [drC hw.out]; exact hcell
      have HU := Lib.hid (hu.drN hw.out)
      obtain ⟨A1, n1, c1, rfl⟩ := hu.shape
      clear hcell hu
      have HX : Hid (fi ls (k + 1) = if fi ls k < 0 ∨ cP (ls.getD k default) (ls.getD (fi ls k).toNat default) < 0 then (k : Int) else fi ls k) := by show _ = _; rw [fi]
      rcases fi_bd ls k with ⟨h0, hneg⟩ | ⟨h0, hb1, hb2⟩
      · subst h0
        have HN : Hid (fi ls (0 + 1) = 0) := by
          have := HX.out
          rw [if_pos (Or.inl (by rw [hneg]; decide))] at this
          exact this
        have d3 : fi ls 0 < 0 := by rw [hneg]; decide
        rw [hneg]
        clear hneg d3 HX
        rw [Nat.add_zero] at g1
        rw [show ((0 : Nat) : Int) = 0 from rfl] at d0 ⊢
        go_wp2_with fail
        go_roundw
        case rel => exact ⟨1, by omega, rfl, by have := HN.out; simp at this; rw [this], hw.out⟩
        case measure => simp [intOf]; omega
      · obtain ⟨f, hff⟩ : ∃ f : Nat, fi ls k = (f : Int) := ⟨(fi ls k).toNat, by omega⟩
        rw [hff] at HX hb1 hb2 ⊢
        have e1 : ((f : Int)).toNat = f := rfl
        rw [e1] at HX
        clear e1 hff
        have d1 : (f : Int) < (ls.length : Int) := by omega
        have d2 : ¬ (f : Int) < 0 := by omega
        obtain ⟨x', o', u', hA, hcell', hu'⟩ := HC.out f (by omega)
        cases hA
        have g2 : wr.cell? ⟨x, o + f, none⟩ = some u' := by rw [drC hw.out]; exact hcell'
        have HU' := Lib.hid (hu'.drN hw.out)
        obtain ⟨A2, n2, c2, rfl⟩ := hu'.shape
        clear hcell' hu'
        have HCP := Lib.hid (compare8 _ _ _ _ _ HU.out HU'.out (hf.at k) (hf.at f))
        generalize cP (ls.getD k default) (ls.getD f default) = r at *
        by_cases hr : r < 0
        · have HN : Hid (fi ls (k + 1) = k) := by
            have := HX.out
            rw [if_pos (Or.inr hr)] at this
            exact this
          clear HX
          go_wp2_with (first | (go_at_call 8; refine HCP.out.mono ?_; rintro e w' ⟨rfl, hw'⟩; have HW := Lib.hid (drT hw.out hw'); clear hw'))
          go_roundw
          case rel => exact ⟨k + 1, by omega, by go_num, by rw [HN.out], HW.out⟩
          case measure => simp [intOf]; omega
        · have HN : Hid (fi ls (k + 1) = f) := by
            have := HX.out
            rw [if_neg (by omega)] at this
            exact this
          clear HX
          go_wp2_with (first | (go_at_call 8; refine HCP.out.mono ?_; rintro e w' ⟨rfl, hw'⟩; have HW := Lib.hid (drT hw.out hw'); clear hw'))
          go_roundw
          case rel => exact ⟨k + 1, by omega, by go_num, by rw [HN.out], HW.out⟩
          case measure => simp [intOf]; omega
    · obtain rfl : k = ls.length := by omega
      rw [HV.out]
      go_wp2
      go_ret
      exact ⟨rfl, hw.out⟩
end Go.Proofs.Ytapfepmioiacbaa
