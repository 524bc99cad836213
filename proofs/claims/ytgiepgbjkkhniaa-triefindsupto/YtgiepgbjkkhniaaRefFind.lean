/-
  The reference's Find.
-/
import Derived.Test.YtgiepgbjkkhniaaTok
import Derived.Test.YtgiepgbjkkhniaaRefMatch
import Derived.Test.YtgiepgbjkkhniaaRefCmp
namespace Go.Proofs.Ytgiepgbjkkhniaa
open Go.RowKit Go.PlainAid
set_option maxRecDepth 100000
/-- the first one of the first k that have the path -/
def Bst (ls : List (List Sg)) (path : List ByteArray) (k : Nat) (b : Int) : Prop :=
  (b = -1 ∧ ∀ j, j < k → mtB (ls.getD j default) path = false) ∨ ∃ n : Nat, b = (n : Int) ∧ n < k ∧ mtB (ls.getD n default) path = true ∧ ∀ j, j < k → mtB (ls.getD j default) path = true → cW ls n j ≤ 0
def pLs (ls : List (List Sg)) (path : List ByteArray) (b : Int) : List Pr := if b < 0 then [] else mtL (ls.getD b.toNat default) path
theorem cW_lt {ls : List (List Sg)} {i k : Nat} (h : cP (ls.getD i default) (ls.getD k default) < 0) : cW ls i k < 0 := by
  unfold cW
  rw [if_pos (by omega)]
  exact h
theorem cW_ge {ls : List (List Sg)} {n k : Nat} (hn : n < k) (h : ¬ cP (ls.getD k default) (ls.getD n default) < 0) : cW ls n k < 0 := by
  have ha := tcP.anti (ls.getD k default) (ls.getD n default)
  unfold cW
  split
  · omega
  · have := cI_cases (n : Int) (k : Int)
    omega
theorem Bst.skip {ls : List (List Sg)} {path : List ByteArray} {k : Nat} {b : Int} (h : Bst ls path k b) (hf : mtB (ls.getD k default) path = false) : Bst ls path (k + 1) b := by
  rcases h with ⟨h1, h2⟩ | ⟨n, h1, h2, h3, h4⟩
  · refine Or.inl ⟨h1, fun j hj => ?_⟩
    by_cases e : j = k
    · rw [e]; exact hf
    · exact h2 j (by omega)
  · refine Or.inr ⟨n, h1, by omega, h3, fun j hj hm => ?_⟩
    by_cases e : j = k
    · rw [e, hf] at hm; cases hm
    · exact h4 j (by omega) hm
theorem Bst.one {ls : List (List Sg)} {path : List ByteArray} {k : Nat} (h : Bst ls path k (-1)) (hf : mtB (ls.getD k default) path = true) : Bst ls path (k + 1) k := by
  rcases h with ⟨_, h2⟩ | ⟨n, h1, _⟩
  · refine Or.inr ⟨k, rfl, by omega, hf, fun j hj hm => ?_⟩
    by_cases e : j = k
    · rw [e, (tcW ls).refl]; decide
    · rw [h2 j (by omega)] at hm
      cases hm
  · omega
theorem Bst.less {ls : List (List Sg)} {path : List ByteArray} {k n : Nat} (h : Bst ls path k n) (hf : mtB (ls.getD k default) path = true) (hc : cP (ls.getD k default) (ls.getD n default) < 0) : Bst ls path (k + 1) k := by
  rcases h with ⟨h1, _⟩ | ⟨m, h1, h2, h3, h4⟩
  · omega
  · obtain rfl : n = m := by omega
    refine Or.inr ⟨k, rfl, by omega, hf, fun j hj hm => ?_⟩
    by_cases e : j = k
    · rw [e, (tcW ls).refl]; decide
    · have := (tcW ls).lt_of_lt_le (cW_lt hc) (h4 j (by omega) hm)
      omega
theorem Bst.more {ls : List (List Sg)} {path : List ByteArray} {k n : Nat} (h : Bst ls path k n) (hc : ¬ cP (ls.getD k default) (ls.getD n default) < 0) : Bst ls path (k + 1) n := by
  rcases h with ⟨h1, _⟩ | ⟨m, h1, h2, h3, h4⟩
  · omega
  · obtain rfl : n = m := by omega
    refine Or.inr ⟨n, rfl, by omega, h3, fun j hj hm => ?_⟩
    by_cases e : j = k
    · rw [e]
      have := cW_ge h2 hc
      omega
    · exact h4 j (by omega) hm
theorem Bst.al {ls : List (List Sg)} {path : List ByteArray} {b : Int} {al : List Nat} (h : Bst ls path ls.length b) (ha : AllN ls path al) : b = aN al ∧ pLs ls path b = aL ls path al ∧ decide (0 ≤ b) = !al.isEmpty := by
  rcases h with ⟨rfl, h2⟩ | ⟨n, rfl, h2, h3, h4⟩
  · have e : al = [] := by
      rw [List.eq_nil_iff_forall_not_mem]
      intro i hi
      have := (ha.2 i).1 hi
      rw [h2 i this.1] at this
      cases this.2
    subst e
    exact ⟨rfl, rfl, rfl⟩
  · have hn := (ha.2 n).2 ⟨h2, h3⟩
    cases al with
    | nil => cases hn
    | cons i0 al =>
      have hi := (ha.2 i0).1 (by simp)
      have e : n = i0 := by
        rw [List.mem_cons] at hn
        rcases hn with e | hn
        · exact e
        · have h5 := (List.pairwise_cons.1 ha.1).1 n hn
          have h6 := h4 i0 hi.1 hi.2
          have h7 := (tcW ls).anti n i0
          omega
      subst e
      refine ⟨rfl, ?_, ?_⟩
      · show pLs ls path (n : Int) = mtL (ls.getD n default) path
        rw [pLs, if_neg (by omega)]
        rfl
      · simp
theorem ps_nil0 (w : World) : Ps w (.slice none 0 0) [] := ⟨none, 0, rfl, by simp, fun _ => rfl, fun i hi => by simp at hi⟩

set_option maxHeartbeats 3200000 in
theorem refFind14 (v1 v2 : Value) (ls : List (List Sg)) (path : List ByteArray) (w : World) (hg : Gss w v1 ls) (hp : Ss w v2 path) (h12 : ls.length ≤ 12) (hf : Few ls) (hz : ∀ l ∈ ls, ∀ g ∈ l, g.2.size ≤ 9223372036854775807) (hs : ∀ s ∈ path, s.size ≤ 100000000) (hl : path.length ≤ 1000)
    {al : List Nat} (ha : AllN ls path al) :
    Calls Try.prog 14 #[v1, v2] w fun e w' => ∃ v, e = .returned (.tuple #[.int .i64 (aN al), v, .bool (!al.isEmpty)]) ∧ Ps w' v (aL ls path al) ∧ Below w.heap.size w w' := by
  have HG := Lib.hid hg
  have HP := Lib.hid hp
  have HA := Lib.hid ha
  have HZ := Lib.hid hz
  have HS := Lib.hid hs
  obtain ⟨A1, c1, rfl⟩ := box_len hg
  obtain ⟨A2, n2, c2, rfl⟩ := hp.shape
  clear hg hp ha hz hs
  go_enter Try.func14, Try.ntmps14
  go_wp2_with fail
  go_loopw [7, 8, 15] (fun bv pv i wr => ∃ (k : Nat) (b : Int) (A : Option Addr) (n c : Nat), k ≤ ls.length ∧ i = .int .i64 k ∧ bv = .int .i64 b ∧ pv = .slice A n c ∧ Bst ls path k b ∧ Ps wr (.slice A n c) (pLs ls path b) ∧ Below w.heap.size w wr) (fun _ _ i _ => ls.length - (intOf i).toNat)
  case atStart => exact ⟨0, -1, none, 0, 0, Nat.zero_le _, rfl, rfl, rfl, Or.inl ⟨rfl, fun j hj => by omega⟩, ps_nil0 _, Below.refl _ _⟩
  case round =>
    obtain ⟨k, b, A8, n8, c8, hk, rfl, rfl, rfl, hbst, hps, hbw⟩ := hrel
    have HBst := Lib.hid hbst
    have HPs := Lib.hid hps
    have HB := Lib.hid hbw
    clear hps hbw
    by_cases hlt : k < ls.length
    · have d0 : (k : Int) < (ls.length : Int) := by omega
      obtain ⟨A', c', e', _, _, hc⟩ := HG.out
      simp only [Value.slice.injEq] at e'
      obtain ⟨rfl, -, rfl⟩ := e'
      have HC := Lib.hid hc
      obtain ⟨x, o, u, rfl, hcell, hu⟩ := hc k hlt
      have hxl : x < w.heap.size := World.block_lt_of_cell? _ _ hcell
      have g1 : wr.cell? ⟨x, o + k, none⟩ = some u := by rw [HB.out.cell hxl]; exact hcell
      have HU := Lib.hid (hu.call HB.out)
      obtain ⟨Au, nu, cu, rfl⟩ := hu.shape
      clear hcell hu hc
      have XM := Lib.hid (match14 _ _ _ path wr HU.out (HP.out.call HB.out) HS.out hl (HZ.out _ (getD_mem ls k hlt)))
      rcases hm : mtB (ls.getD k default) path with _ | _
      · rw [hm] at XM
        have HN := Lib.hid (HBst.out.skip hm)
        clear hm hbst
        go_wp2_with (first | (go_at_call 16; refine XM.out.mono ?_; rintro e w6 ⟨v6, rfl, hps6, hb6⟩; have B6 := Lib.hid (HB.out.trans (hb6.mono HB.out.size)); have P6 := Lib.hid (HPs.out.call hb6); obtain ⟨A9, n9, c9, hv9⟩ : ∃ A n c, v6 = .slice A n c := (by obtain ⟨A, c, e, _⟩ := hps6; exact ⟨_, _, _, e⟩); subst hv9; clear hps6 hb6))
        go_roundw
        case rel => exact ⟨k + 1, b, A8, n8, c8, by omega, by go_num, rfl, rfl, HN.out, P6.out, B6.out⟩
        case measure => simp [intOf]; omega
      · rw [hm] at XM
        have HMt := Lib.hid hm
        clear hm
        rcases hbst with ⟨rfl, -⟩ | ⟨n, rfl, hn, -⟩
        · have HN := Lib.hid (HBst.out.one HMt.out)
          go_wp2_with (first | (go_at_call 16; refine XM.out.mono ?_; rintro e w6 ⟨v6, rfl, hps6, hb6⟩; have B6 := Lib.hid (HB.out.trans (hb6.mono HB.out.size)); have P6 := Lib.hid hps6; obtain ⟨A9, n9, c9, hv9⟩ : ∃ A n c, v6 = .slice A n c := (by obtain ⟨A, c, e, _⟩ := hps6; exact ⟨_, _, _, e⟩); subst hv9; clear hps6 hb6))
          go_roundw
          case rel =>
            refine ⟨k + 1, k, A9, n9, c9, by omega, by go_num, rfl, rfl, HN.out, ?_, B6.out⟩
            rw [pLs, if_neg (by omega)]
            exact P6.out
          case measure => simp [intOf]; omega
        · obtain ⟨x', o', u', e', hcell', hu'⟩ := HC.out n (by omega)
          cases e'
          obtain ⟨Av, nv, cv, rfl⟩ := hu'.shape
          have HX := Lib.hid hcell'
          have XC := Lib.hid (fun W (hW : Below wr.heap.size wr W) => refCompare12 _ _ _ _ W (HU.out.call hW) (hu'.call (HB.out.trans (hW.mono HB.out.size))) (hf.at k) (hf.at n))
          have HL := Lib.hid (fun hc => HBst.out.less (n := n) HMt.out hc)
          have HR := Lib.hid (fun hc => HBst.out.more (n := n) hc)
          clear hcell' hu'
          generalize cP (ls.getD k default) (ls.getD n default) = r at *
          have d1 : ¬ (n : Int) < 0 := by omega
          have d2 : (n : Int) < (ls.length : Int) := by omega
          have d3 : decide ((n : Int) < 0) = false := by simp
          rcases Int.lt_or_le r 0 with hr | hr
          · have HN := Lib.hid (HL.out hr)
            go_wp2_with (first
              | (go_at_call 16; refine XM.out.mono ?_; rintro e w6 ⟨v6, rfl, hps6, hb6⟩; have B6 := Lib.hid hb6; have P6 := Lib.hid hps6; obtain ⟨A9, n9, c9, hv9⟩ : ∃ A n c, v6 = .slice A n c := (by obtain ⟨A, c, e, _⟩ := hps6; exact ⟨_, _, _, e⟩); subst hv9; have y1 : w6.cell? ⟨x, o + n, none⟩ = some (.slice Av nv cv) := (by rw [(HB.out.trans (hb6.mono HB.out.size)).cell hxl]; exact HX.out); clear hps6 hb6)
              | (go_at_call 17; refine (XC.out _ B6.out).mono ?_; rintro e w7 ⟨rfl, hw7⟩; have D7 := Lib.hid (drB hw7 w6.heap.size); clear hw7))
            go_roundw
            case rel =>
              refine ⟨k + 1, k, A9, n9, c9, by omega, by go_num, rfl, rfl, HN.out, ?_, HB.out.trans ((B6.out.trans (D7.out.mono B6.out.size)).mono HB.out.size)⟩
              rw [pLs, if_neg (by omega)]
              exact P6.out.call D7.out
            case measure => simp [intOf]; omega
          · have hr2 : ¬ r < 0 := by omega
            have HN := Lib.hid (HR.out hr2)
            go_wp2_with (first
              | (go_at_call 16; refine XM.out.mono ?_; rintro e w6 ⟨v6, rfl, hps6, hb6⟩; have B6 := Lib.hid hb6; have P6 := Lib.hid (HPs.out.call hb6); obtain ⟨A9, n9, c9, hv9⟩ : ∃ A n c, v6 = .slice A n c := (by obtain ⟨A, c, e, _⟩ := hps6; exact ⟨_, _, _, e⟩); subst hv9; have y1 : w6.cell? ⟨x, o + n, none⟩ = some (.slice Av nv cv) := (by rw [(HB.out.trans (hb6.mono HB.out.size)).cell hxl]; exact HX.out); clear hps6 hb6)
              | (go_at_call 17; refine (XC.out _ B6.out).mono ?_; rintro e w7 ⟨rfl, hw7⟩; have D7 := Lib.hid (drB hw7 w6.heap.size); clear hw7))
            go_roundw
            case rel => exact ⟨k + 1, n, A8, n8, c8, by omega, by go_num, rfl, rfl, HN.out, P6.out.call D7.out, HB.out.trans ((B6.out.trans (D7.out.mono B6.out.size)).mono HB.out.size)⟩
            case measure => simp [intOf]; omega
    · obtain rfl : k = ls.length := by omega
      obtain ⟨e1, e2, e3⟩ := HBst.out.al HA.out
      have E1 := Lib.hid e1
      have E2 := Lib.hid e2
      have E3 := Lib.hid e3
      clear e1 e2 e3 hbst
      go_wp2_with fail
      go_ret3
      refine ⟨.slice A8 n8 c8, ?_, by rw [← E2.out]; exact HPs.out, HB.out⟩
      rw [← E1.out, ← E3.out]
      rfl
end Go.Proofs.Ytgiepgbjkkhniaa
