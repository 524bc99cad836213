/-
  Put together: RefCmp, RefFind.
-/
import Derived.Test.YthigandmemifoaaGreatDoorP04
import Derived.Test.YthigandmemifoaaGreatDoorP22
import Derived.Test.YthigandmemifoaaGreatDoorP26
namespace Go.Proofs.YthigandmemifoaaGreatDoor
open Go.RowKit Go.PlainAid
set_option maxRecDepth 100000

set_option maxHeartbeats 1000000 in
theorem sign22 (n : Int) (w : World) : Calls Tryz.prog 90 #[.int .i64 n] w fun e w' => e = .returned (.int .i64 (cI n 0)) ∧ w' = w := by
  rcases cI_cases n 0 with ⟨h, e⟩ | ⟨h, e⟩ | ⟨h, e⟩
  · rw [e]
    clear e
    go_enter Tryz.func90, Tryz.ntmps90
    go_wp2
    go_ret
    exact ⟨rfl, rfl⟩
  · rw [e]
    clear e
    subst h
    go_enter Tryz.func90, Tryz.ntmps90
    go_wp2
    go_ret
    exact ⟨rfl, rfl⟩
  · rw [e]
    clear e
    have h2 : ¬ n < 0 := by omega
    go_enter Tryz.func90, Tryz.ntmps90
    go_wp2
    go_ret
    exact ⟨rfl, rfl⟩
theorem cI_sub (a b : Int) : cI (a - b) 0 = cI a b := by
  have h1 := cI_cases (a - b) 0
  have h2 := cI_cases a b
  omega

set_option maxHeartbeats 3200000 in
theorem refCompare12 (v1 v2 : Value) (a b : List Sg) (w : World) (h1 : Gs w v1 a) (h2 : Gs w v2 b) (hz : a.length ≤ 1000000000) (hz2 : b.length ≤ 1000000000) :
    Calls Tryz.prog 74 #[v1, v2] w fun e w' => e = .returned (.int .i64 (cP a b)) ∧ ∃ q, w' = w.drewN q := by
  have HP := Lib.hid (cP_is a b)
  rw [← pKf_zero, ← pTf_zero] at HP
  generalize cP a b = V at *
  obtain ⟨A, cap, rfl, _, _, hc⟩ := h1
  obtain ⟨A2, cap2, rfl, _, _, hc2⟩ := h2
  have HC := Lib.hid hc
  have HC2 := Lib.hid hc2
  clear hc hc2
  go_enter Tryz.func74, Tryz.ntmps74
  go_wp2_with fail
  go_loopw [5] (fun i wr => ∃ (k : Nat), k ≤ a.length ∧ k ≤ b.length ∧ i = .int .i64 k ∧ Hid (V = if pKf a b k ≠ 0 then pKf a b k else if cI b.length a.length ≠ 0 then cI b.length a.length else pTf a b 0) ∧ Hid (∃ q, wr = w.drewN q)) (fun i _ => a.length - (intOf i).toNat)
  case atStart => exact ⟨0, Nat.zero_le _, Nat.zero_le _, rfl, HP.out, 0, rfl⟩
  case round =>
    obtain ⟨k, hk, hk2, rfl, ht, hw⟩ := hrel
    by_cases hlt : k < a.length ∧ k < b.length
    · obtain ⟨hla, hlb⟩ := hlt
      have d1 : (k : Int) < (a.length : Int) := by omega
      have d2 : (k : Int) < (b.length : Int) := by omega
      have HX := Lib.hid (pKf_next (a := a) (b := b) (k := k) hla hlb)
      obtain ⟨x, o, rfl, hcell, _⟩ := HC.out k hla
      obtain ⟨x2, o2, rfl, hcell2, _⟩ := HC2.out k hlb
      have g1 : wr.cell? ⟨x, o + k * 2, none⟩ = some (.int .i64 (a.getD k default).1) := by rw [drC hw.out]; exact hcell
      have g2 : wr.cell? ⟨x2, o2 + k * 2, none⟩ = some (.int .i64 (b.getD k default).1) := by rw [drC hw.out]; exact hcell2
      clear hcell hcell2
      generalize (a.getD k default).1 = s at *
      generalize (b.getD k default).1 = t at *
      rcases cI_cases s t with ⟨h, e⟩ | ⟨h, e⟩ | ⟨h, e⟩
      · have HN : Hid (V = -1) := by
          have h5 := HX.out
          rw [e, if_pos (by decide)] at h5
          have := ht.out
          rw [h5] at this
          simp at this
          exact this
        clear e HX ht HP
        go_wp2_with fail
        go_quiet (fail)
        go_wp2
        rw [HN.out]
        go_ret
        exact ⟨rfl, drN hw.out _⟩
      · have HN : Hid (V = if pKf a b (k + 1) ≠ 0 then pKf a b (k + 1) else if cI b.length a.length ≠ 0 then cI b.length a.length else pTf a b 0) := by
          have h5 := HX.out
          rw [e, if_neg (by simp)] at h5
          have := ht.out
          rw [h5] at this
          exact this
        have q1 : ¬ s < t := by omega
        have q2 : ¬ t < s := by omega
        clear e HX ht HP h
        go_wp2_with fail
        go_quiet (fail)
        go_wp2_with fail
        go_quiet (fail)
        go_wp2_with fail
        go_roundw
        case rel => exact ⟨k + 1, by omega, by omega, by go_num, HN.out, drN hw.out _⟩
        case measure => simp [intOf]; omega
      · have HN : Hid (V = 1) := by
          have h5 := HX.out
          rw [e, if_pos (by decide)] at h5
          have := ht.out
          rw [h5] at this
          simp at this
          exact this
        have q1 : ¬ s < t := by omega
        clear e HX ht HP
        go_wp2_with fail
        go_quiet (fail)
        go_wp2_with fail
        go_quiet (fail)
        go_wp2
        rw [HN.out]
        go_ret
        exact ⟨rfl, drN (drN hw.out _) _⟩
    · have HN : Hid (V = if cI b.length a.length ≠ 0 then cI b.length a.length else pTf a b 0) := by
        have := ht.out
        rw [pKf_end (by omega), if_neg (by simp)] at this
        exact this
      by_cases hl : a.length = b.length
      · obtain rfl : k = a.length := by omega
        have HN2 : Hid (pTf a b 0 = V) := by
          have := HN.out
          have e := (tcI.zero (b.length : Int) (a.length : Int)).2 (by omega)
          rw [e, if_neg (by simp)] at this
          exact this.symm
        have c0 : ((a.length : Int) == (b.length : Int)) = true := by simp; omega
        have HL := Lib.hid hl
        clear hl ht HP HN hlt
        go_wp2_with fail
        go_loopw [54] (fun i wz => ∃ (k : Nat), k ≤ a.length ∧ i = .int .i64 k ∧ Hid (pTf a b k = V) ∧ Hid (∃ q, wz = w.drewN q)) (fun i _ => a.length - (intOf i).toNat)
        case atStart => exact ⟨0, Nat.zero_le _, rfl, HN2.out, hw.out⟩
        case round =>
          obtain ⟨j, hj, rfl, hu, hv⟩ := hrel
          have hl2 := HL.out
          by_cases hlj : j < a.length
          · have d1 : (j : Int) < (a.length : Int) := by omega
            have d2 : (j : Int) < (b.length : Int) := by omega
            have HX := Lib.hid (pTf_next (a := a) (b := b) (k := j) hlj (by omega))
            obtain ⟨x, o, rfl, _, hcell⟩ := HC.out j hlj
            obtain ⟨x2, o2, rfl, _, hcell2⟩ := HC2.out j (by omega)
            have g1 : wr.cell? ⟨x, o + j * 2 + 1, none⟩ = some (.string (a.getD j default).2) := by rw [drC hv.out]; exact hcell
            have g2 : wr.cell? ⟨x2, o2 + j * 2 + 1, none⟩ = some (.string (b.getD j default).2) := by rw [drC hv.out]; exact hcell2
            clear hcell hcell2 hl2
            generalize (a.getD j default).2 = s at *
            generalize (b.getD j default).2 = t at *
            rcases cT_cases s t with ⟨h, e⟩ | ⟨h, h', e⟩ | ⟨h, h', e⟩
            · have HN : Hid (V = -1) := by
                have h5 := HX.out
                rw [e, if_pos (by decide), hu.out] at h5
                exact h5
              clear e HX hu
              go_wp2_with fail
              go_quiet (fail)
              go_wp2
              rw [HN.out]
              go_ret
              exact ⟨rfl, drN hv.out _⟩
            · have HN : Hid (pTf a b (j + 1) = V) := by
                have h5 := HX.out
                rw [e, if_neg (by simp), hu.out] at h5
                exact h5.symm
              clear e HX hu
              go_wp2_with fail
              go_quiet (fail)
              go_wp2_with fail
              go_quiet (fail)
              go_wp2_with fail
              go_roundw
              case rel => exact ⟨j + 1, by omega, by go_num, HN.out, drN hv.out _⟩
              case measure => simp [intOf]; omega
            · have HN : Hid (V = 1) := by
                have h5 := HX.out
                rw [e, if_pos (by decide), hu.out] at h5
                exact h5
              clear e HX hu
              go_wp2_with fail
              go_quiet (fail)
              go_wp2_with fail
              go_quiet (fail)
              go_wp2
              rw [HN.out]
              go_ret
              exact ⟨rfl, drN (drN hv.out _) _⟩
          · obtain rfl : j = a.length := by omega
            have HN : Hid (V = 0) := hu.out.symm.trans (pTf_end (Or.inl (Nat.le_refl _)))
            clear hl2
            go_wp2
            rw [HN.out]
            go_ret
            exact ⟨rfl, hv.out⟩
      · have HN2 : Hid (V = cI ((b.length : Int) - (a.length : Int)) 0) := by
          have := HN.out
          have e : ¬ cI (b.length : Int) (a.length : Int) = 0 := fun h => by have := (tcI.zero _ _).1 h; omega
          rw [if_pos e] at this
          show _ = _
          rw [cI_sub]
          exact this
        have c0 : ((a.length : Int) == (b.length : Int)) = false := by simp; omega
        have hxx : ¬ (k : Int) < (a.length : Int) ∨ ((k : Int) < (a.length : Int) ∧ ¬ (k : Int) < (b.length : Int)) := by omega
        clear ht HP HN hl
        rcases hxx with e0 | ⟨e0, e1⟩
        all_goals
          go_wp2_with (first | (go_at_call 90; refine (sign22 _ _).mono ?_; rintro e w2 ⟨rfl, hw2⟩; subst hw2))
          rw [HN2.out]
          go_ret
          exact ⟨rfl, hw.out⟩
end Go.Proofs.YthigandmemifoaaGreatDoor

namespace Go.Proofs.YthigandmemifoaaGreatDoor
open Go.RowKit Go.PlainAid
set_option maxRecDepth 100000
/-- the first one of the first k that have the path -/
def Bst (ls : List (List Sg)) (path : List ByteArray) (k : Nat) (b : Int) : Prop :=
  (b = -1 ∧ ∀ j, j < k → mtB (ls.getD j default) path = false) ∨ ∃ n : Nat, b = (n : Int) ∧ n < k ∧ mtB (ls.getD n default) path = true ∧ ∀ j, j < k → mtB (ls.getD j default) path = true → cW ls n j ≤ 0
def pLs (ls : List (List Sg)) (path : List ByteArray) (b : Int) : List Pr := if b < 0 then [] else mtL (ls.getD b.toNat default) path
theorem cW_lt {ls : List (List Sg)} {i k : Nat} (h : cP (ls.getD i default) (ls.getD k default) < 0) : cW ls i k < 0 := by
  unfold cW
  rw [if_pos (by omega)]
  exact h
theorem cW_ge {ls : List (List Sg)} {n k : Nat} (hn : n < k) (h : ¬ cP (ls.getD k default) (ls.getD n default) < 0) : cW ls n k < 0 := by
  have ha := tcP.anti (ls.getD k default) (ls.getD n default)
  unfold cW
  split
  · omega
  · have := cI_cases (n : Int) (k : Int)
    omega
theorem Bst.skip {ls : List (List Sg)} {path : List ByteArray} {k : Nat} {b : Int} (h : Bst ls path k b) (hf : mtB (ls.getD k default) path = false) : Bst ls path (k + 1) b := by
  rcases h with ⟨h1, h2⟩ | ⟨n, h1, h2, h3, h4⟩
  · refine Or.inl ⟨h1, fun j hj => ?_⟩
    by_cases e : j = k
    · rw [e]; exact hf
    · exact h2 j (by omega)
  · refine Or.inr ⟨n, h1, by omega, h3, fun j hj hm => ?_⟩
    by_cases e : j = k
    · rw [e, hf] at hm; cases hm
    · exact h4 j (by omega) hm
theorem Bst.one {ls : List (List Sg)} {path : List ByteArray} {k : Nat} (h : Bst ls path k (-1)) (hf : mtB (ls.getD k default) path = true) : Bst ls path (k + 1) k := by
  rcases h with ⟨_, h2⟩ | ⟨n, h1, _⟩
  · refine Or.inr ⟨k, rfl, by omega, hf, fun j hj hm => ?_⟩
    by_cases e : j = k
    · rw [e, (tcW ls).refl]; decide
    · rw [h2 j (by omega)] at hm
      cases hm
  · omega
theorem Bst.less {ls : List (List Sg)} {path : List ByteArray} {k n : Nat} (h : Bst ls path k n) (hf : mtB (ls.getD k default) path = true) (hc : cP (ls.getD k default) (ls.getD n default) < 0) : Bst ls path (k + 1) k := by
  rcases h with ⟨h1, _⟩ | ⟨m, h1, h2, h3, h4⟩
  · omega
  · obtain rfl : n = m := by omega
    refine Or.inr ⟨k, rfl, by omega, hf, fun j hj hm => ?_⟩
    by_cases e : j = k
    · rw [e, (tcW ls).refl]; decide
    · have := (tcW ls).lt_of_lt_le (cW_lt hc) (h4 j (by omega) hm)
      omega
theorem Bst.more {ls : List (List Sg)} {path : List ByteArray} {k n : Nat} (h : Bst ls path k n) (hc : ¬ cP (ls.getD k default) (ls.getD n default) < 0) : Bst ls path (k + 1) n := by
  rcases h with ⟨h1, _⟩ | ⟨m, h1, h2, h3, h4⟩
  · omega
  · obtain rfl : n = m := by omega
    refine Or.inr ⟨n, rfl, by omega, h3, fun j hj hm => ?_⟩
    by_cases e : j = k
    · rw [e]
      have := cW_ge h2 hc
      omega
    · exact h4 j (by omega) hm
theorem Bst.al {ls : List (List Sg)} {path : List ByteArray} {b : Int} {al : List Nat} (h : Bst ls path ls.length b) (ha : AllN ls path al) : b = aN al ∧ pLs ls path b = aL ls path al ∧ decide (0 ≤ b) = !al.isEmpty := by
  rcases h with ⟨rfl, h2⟩ | ⟨n, rfl, h2, h3, h4⟩
  · have e : al = [] := by
      rw [List.eq_nil_iff_forall_not_mem]
      intro i hi
      have := (ha.2 i).1 hi
      rw [h2 i this.1] at this
      cases this.2
    subst e
    exact ⟨rfl, rfl, rfl⟩
  · have hn := (ha.2 n).2 ⟨h2, h3⟩
    cases al with
    | nil => cases hn
    | cons i0 al =>
      have hi := (ha.2 i0).1 (by simp)
      have e : n = i0 := by
        rw [List.mem_cons] at hn
        rcases hn with e | hn
        · exact e
        · have h5 := (List.pairwise_cons.1 ha.1).1 n hn
          have h6 := h4 i0 hi.1 hi.2
          have h7 := (tcW ls).anti n i0
          omega
      subst e
      refine ⟨rfl, ?_, ?_⟩
      · show pLs ls path (n : Int) = mtL (ls.getD n default) path
        rw [pLs, if_neg (by omega)]
        rfl
      · simp
theorem ps_nil0 (w : World) : Ps w (.slice none 0 0) [] := ⟨none, 0, rfl, by simp, fun _ => rfl, fun i hi => by simp at hi⟩

set_option maxHeartbeats 3200000 in
theorem refFind14 (v1 v2 : Value) (ls : List (List Sg)) (path : List ByteArray) (w : World) (hg : Gss w v1 ls) (hp : Ss w v2 path) (h12 : ls.length ≤ 1000) (hf : Few ls) (hz : ∀ l ∈ ls, ∀ g ∈ l, g.2.size ≤ 9223372036854775807) (hs : ∀ s ∈ path, s.size ≤ 100000000) (hl : path.length ≤ 1000)
    {al : List Nat} (ha : AllN ls path al) :
    Calls Tryz.prog 52 #[v1, v2] w fun e w' => ∃ v, e = .returned (.tuple #[.int .i64 (aN al), v, .bool (!al.isEmpty)]) ∧ Ps w' v (aL ls path al) ∧ Below w.heap.size w w' := by
  have HG := Lib.hid hg
  have HP := Lib.hid hp
  have HA := Lib.hid ha
  have HZ := Lib.hid hz
  have HS := Lib.hid hs
  obtain ⟨A1, c1, rfl⟩ := box_len hg
  obtain ⟨A2, n2, c2, rfl⟩ := hp.shape
  clear hg hp ha hz hs
  go_enter Tryz.func52, Tryz.ntmps52
  go_wp2_with fail
  go_loopw [7, 8, 15] (fun bv pv i wr => ∃ (k : Nat) (b : Int) (A : Option Addr) (n c : Nat), k ≤ ls.length ∧ i = .int .i64 k ∧ bv = .int .i64 b ∧ pv = .slice A n c ∧ Bst ls path k b ∧ Ps wr (.slice A n c) (pLs ls path b) ∧ Below w.heap.size w wr) (fun _ _ i _ => ls.length - (intOf i).toNat)
  case atStart => exact ⟨0, -1, none, 0, 0, Nat.zero_le _, rfl, rfl, rfl, Or.inl ⟨rfl, fun j hj => by omega⟩, ps_nil0 _, Below.refl _ _⟩
  case round =>
    obtain ⟨k, b, A8, n8, c8, hk, rfl, rfl, rfl, hbst, hps, hbw⟩ := hrel
    have HBst := Lib.hid hbst
    have HPs := Lib.hid hps
    have HB := Lib.hid hbw
    clear hps hbw
    by_cases hlt : k < ls.length
    · have d0 : (k : Int) < (ls.length : Int) := by omega
      obtain ⟨A', c', e', _, _, hc⟩ := HG.out
      simp only [Value.slice.injEq] at e'
      obtain ⟨rfl, -, rfl⟩ := e'
      have HC := Lib.hid hc
      obtain ⟨x, o, u, rfl, hcell, hu⟩ := hc k hlt
      have hxl : x < w.heap.size := World.block_lt_of_cell? _ _ hcell
      have g1 : wr.cell? ⟨x, o + k, none⟩ = some u := by rw [HB.out.cell hxl]; exact hcell
      have HU := Lib.hid (hu.call HB.out)
      obtain ⟨Au, nu, cu, rfl⟩ := hu.shape
      clear hcell hu hc
      have XM := Lib.hid (match14 _ _ _ path wr HU.out (HP.out.call HB.out) HS.out hl (HZ.out _ (getD_mem ls k hlt)))
      rcases hm : mtB (ls.getD k default) path with _ | _
      · rw [hm] at XM
        have HN := Lib.hid (HBst.out.skip hm)
        clear hm hbst
        go_wp2_with (first | (go_at_call 73; refine XM.out.mono ?_; rintro e w6 ⟨v6, rfl, hps6, hb6⟩; have B6 := Lib.hid (HB.out.trans (hb6.mono HB.out.size)); have P6 := Lib.hid (HPs.out.call hb6); obtain ⟨A9, n9, c9, hv9⟩ : ∃ A n c, v6 = .slice A n c := (by obtain ⟨A, c, e, _⟩ := hps6; exact ⟨_, _, _, e⟩); subst hv9; clear hps6 hb6))
        go_roundw
        case rel => exact ⟨k + 1, b, A8, n8, c8, by omega, by go_num, rfl, rfl, HN.out, P6.out, B6.out⟩
        case measure => simp [intOf]; omega
      · rw [hm] at XM
        have HMt := Lib.hid hm
        clear hm
        rcases hbst with ⟨rfl, -⟩ | ⟨n, rfl, hn, -⟩
        · have HN := Lib.hid (HBst.out.one HMt.out)
          go_wp2_with (first | (go_at_call 73; refine XM.out.mono ?_; rintro e w6 ⟨v6, rfl, hps6, hb6⟩; have B6 := Lib.hid (HB.out.trans (hb6.mono HB.out.size)); have P6 := Lib.hid hps6; obtain ⟨A9, n9, c9, hv9⟩ : ∃ A n c, v6 = .slice A n c := (by obtain ⟨A, c, e, _⟩ := hps6; exact ⟨_, _, _, e⟩); subst hv9; clear hps6 hb6))
          go_roundw
          case rel =>
            refine ⟨k + 1, k, A9, n9, c9, by omega, by go_num, rfl, rfl, HN.out, ?_, B6.out⟩
            rw [pLs, if_neg (by omega)]
            exact P6.out
          case measure => simp [intOf]; omega
        · obtain ⟨x', o', u', e', hcell', hu'⟩ := HC.out n (by omega)
          cases e'
          obtain ⟨Av, nv, cv, rfl⟩ := hu'.shape
          have HX := Lib.hid hcell'
          have XC := Lib.hid (fun W (hW : Below wr.heap.size wr W) => refCompare12 _ _ _ _ W (HU.out.call hW) (hu'.call (HB.out.trans (hW.mono HB.out.size))) (hf.at k) (hf.at n))
          have HL := Lib.hid (fun hc => HBst.out.less (n := n) HMt.out hc)
          have HR := Lib.hid (fun hc => HBst.out.more (n := n) hc)
          clear hcell' hu'
          generalize cP (ls.getD k default) (ls.getD n default) = r at *
          have d1 : ¬ (n : Int) < 0 := by omega
          have d2 : (n : Int) < (ls.length : Int) := by omega
          have d3 : decide ((n : Int) < 0) = false := by simp
          rcases Int.lt_or_le r 0 with hr | hr
          · have HN := Lib.hid (HL.out hr)
            go_wp2_with (first
              | (go_at_call 73; refine XM.out.mono ?_; rintro e w6 ⟨v6, rfl, hps6, hb6⟩; have B6 := Lib.hid hb6; have P6 := Lib.hid hps6; obtain ⟨A9, n9, c9, hv9⟩ : ∃ A n c, v6 = .slice A n c := (by obtain ⟨A, c, e, _⟩ := hps6; exact ⟨_, _, _, e⟩); subst hv9; have y1 : w6.cell? ⟨x, o + n, none⟩ = some (.slice Av nv cv) := (by rw [(HB.out.trans (hb6.mono HB.out.size)).cell hxl]; exact HX.out); clear hps6 hb6)
              | (go_at_call 74; refine (XC.out _ B6.out).mono ?_; rintro e w7 ⟨rfl, hw7⟩; have D7 := Lib.hid (drB hw7 w6.heap.size); clear hw7))
            go_roundw
            case rel =>
              refine ⟨k + 1, k, A9, n9, c9, by omega, by go_num, rfl, rfl, HN.out, ?_, HB.out.trans ((B6.out.trans (D7.out.mono B6.out.size)).mono HB.out.size)⟩
              rw [pLs, if_neg (by omega)]
              exact P6.out.call D7.out
            case measure => simp [intOf]; omega
          · have hr2 : ¬ r < 0 := by omega
            have HN := Lib.hid (HR.out hr2)
            go_wp2_with (first
              | (go_at_call 73; refine XM.out.mono ?_; rintro e w6 ⟨v6, rfl, hps6, hb6⟩; have B6 := Lib.hid hb6; have P6 := Lib.hid (HPs.out.call hb6); obtain ⟨A9, n9, c9, hv9⟩ : ∃ A n c, v6 = .slice A n c := (by obtain ⟨A, c, e, _⟩ := hps6; exact ⟨_, _, _, e⟩); subst hv9; have y1 : w6.cell? ⟨x, o + n, none⟩ = some (.slice Av nv cv) := (by rw [(HB.out.trans (hb6.mono HB.out.size)).cell hxl]; exact HX.out); clear hps6 hb6)
              | (go_at_call 74; refine (XC.out _ B6.out).mono ?_; rintro e w7 ⟨rfl, hw7⟩; have D7 := Lib.hid (drB hw7 w6.heap.size); clear hw7))
            go_roundw
            case rel => exact ⟨k + 1, n, A8, n8, c8, by omega, by go_num, rfl, rfl, HN.out, P6.out.call D7.out, HB.out.trans ((B6.out.trans (D7.out.mono B6.out.size)).mono HB.out.size)⟩
            case measure => simp [intOf]; omega
    · obtain rfl : k = ls.length := by omega
      obtain ⟨e1, e2, e3⟩ := HBst.out.al HA.out
      have E1 := Lib.hid e1
      have E2 := Lib.hid e2
      have E3 := Lib.hid e3
      clear e1 e2 e3 hbst
      go_wp2_with fail
      go_ret3
      refine ⟨.slice A8 n8 c8, ?_, by rw [← E2.out]; exact HPs.out, HB.out⟩
      rw [← E1.out, ← E3.out]
      rfl
end Go.Proofs.YthigandmemifoaaGreatDoor
