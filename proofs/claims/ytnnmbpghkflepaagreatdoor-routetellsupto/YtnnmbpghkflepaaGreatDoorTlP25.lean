/-
  Put together: RefFind, RefBdP.
-/
import Derived.Test.YtnnmbpghkflepaaGreatDoorTlP20
import Derived.Test.YtnnmbpghkflepaaGreatDoorTlP24
import Derived.Test.YtnnmbpghkflepaaGreatDoorTlP21
namespace Go.Proofs.YtnnmbpghkflepaaGreatDoor
open Go.RowKit Go.PlainAid
set_option maxRecDepth 100000
/-- the first one of the first k that have the path -/
def Bst (ls : List (List Sg)) (path : List ByteArray) (k : Nat) (b : Int) : Prop :=
  (b = -1 ∧ ∀ j, j < k → mtB (ls.getD j default) path = false) ∨ ∃ n : Nat, b = (n : Int) ∧ n < k ∧ mtB (ls.getD n default) path = true ∧ ∀ j, j < k → mtB (ls.getD j default) path = true → cW ls n j ≤ 0
def pLs (ls : List (List Sg)) (path : List ByteArray) (b : Int) : List Pr := if b < 0 then [] else mtL (ls.getD b.toNat default) path
theorem cW_lt {ls : List (List Sg)} {i k : Nat} (h : cP (ls.getD i default) (ls.getD k default) < 0) : cW ls i k < 0 := by
  unfold cW
  rw [if_pos (by omega)]
  exact h
theorem cW_ge {ls : List (List Sg)} {n k : Nat} (hn : n < k) (h : ¬ cP (ls.getD k default) (ls.getD n default) < 0) : cW ls n k < 0 := by
  have ha := tcP.anti (ls.getD k default) (ls.getD n default)
  unfold cW
  split
  · omega
  · have := cI_cases (n : Int) (k : Int)
    omega
theorem Bst.skip {ls : List (List Sg)} {path : List ByteArray} {k : Nat} {b : Int} (h : Bst ls path k b) (hf : mtB (ls.getD k default) path = false) : Bst ls path (k + 1) b := by
  rcases h with ⟨h1, h2⟩ | ⟨n, h1, h2, h3, h4⟩
  · refine Or.inl ⟨h1, fun j hj => ?_⟩
    by_cases e : j = k
    · rw [e]; exact hf
    · exact h2 j (by omega)
  · refine Or.inr ⟨n, h1, by omega, h3, fun j hj hm => ?_⟩
    by_cases e : j = k
    · rw [e, hf] at hm; cases hm
    · exact h4 j (by omega) hm
theorem Bst.one {ls : List (List Sg)} {path : List ByteArray} {k : Nat} (h : Bst ls path k (-1)) (hf : mtB (ls.getD k default) path = true) : Bst ls path (k + 1) k := by
  rcases h with ⟨_, h2⟩ | ⟨n, h1, _⟩
  · refine Or.inr ⟨k, rfl, by omega, hf, fun j hj hm => ?_⟩
    by_cases e : j = k
    · rw [e, (tcW ls).refl]; decide
    · rw [h2 j (by omega)] at hm
      cases hm
  · omega
theorem Bst.less {ls : List (List Sg)} {path : List ByteArray} {k n : Nat} (h : Bst ls path k n) (hf : mtB (ls.getD k default) path = true) (hc : cP (ls.getD k default) (ls.getD n default) < 0) : Bst ls path (k + 1) k := by
  rcases h with ⟨h1, _⟩ | ⟨m, h1, h2, h3, h4⟩
  · omega
  · obtain rfl : n = m := by omega
    refine Or.inr ⟨k, rfl, by omega, hf, fun j hj hm => ?_⟩
    by_cases e : j = k
    · rw [e, (tcW ls).refl]; decide
    · have := (tcW ls).lt_of_lt_le (cW_lt hc) (h4 j (by omega) hm)
      omega
theorem Bst.more {ls : List (List Sg)} {path : List ByteArray} {k n : Nat} (h : Bst ls path k n) (hc : ¬ cP (ls.getD k default) (ls.getD n default) < 0) : Bst ls path (k + 1) n := by
  rcases h with ⟨h1, _⟩ | ⟨m, h1, h2, h3, h4⟩
  · omega
  · obtain rfl : n = m := by omega
    refine Or.inr ⟨n, rfl, by omega, h3, fun j hj hm => ?_⟩
    by_cases e : j = k
    · rw [e]
      have := cW_ge h2 hc
      omega
    · exact h4 j (by omega) hm
theorem Bst.al {ls : List (List Sg)} {path : List ByteArray} {b : Int} {al : List Nat} (h : Bst ls path ls.length b) (ha : AllN ls path al) : b = aN al ∧ pLs ls path b = aL ls path al ∧ decide (0 ≤ b) = !al.isEmpty := by
  rcases h with ⟨rfl, h2⟩ | ⟨n, rfl, h2, h3, h4⟩
  · have e : al = [] := by
      rw [List.eq_nil_iff_forall_not_mem]
      intro i hi
      have := (ha.2 i).1 hi
      rw [h2 i this.1] at this
      cases this.2
    subst e
    exact ⟨rfl, rfl, rfl⟩
  · have hn := (ha.2 n).2 ⟨h2, h3⟩
    cases al with
    | nil => cases hn
    | cons i0 al =>
      have hi := (ha.2 i0).1 (by simp)
      have e : n = i0 := by
        rw [List.mem_cons] at hn
        rcases hn with e | hn
        · exact e
        · have h5 := (List.pairwise_cons.1 ha.1).1 n hn
          have h6 := h4 i0 hi.1 hi.2
          have h7 := (tcW ls).anti n i0
          omega
      subst e
      refine ⟨rfl, ?_, ?_⟩
      · show pLs ls path (n : Int) = mtL (ls.getD n default) path
        rw [pLs, if_neg (by omega)]
        rfl
      · simp
theorem ps_nil0 (w : World) : Ps w (.slice none 0 0) [] := ⟨none, 0, rfl, by simp, fun _ => rfl, fun i hi => by simp at hi⟩

set_option maxHeartbeats 3200000 in
theorem refFind14 (v1 v2 : Value) (ls : List (List Sg)) (path : List ByteArray) (w : World) (hg : Gss w v1 ls) (hp : Ss w v2 path) (h12 : ls.length ≤ 1000) (hf : Few ls) (hz : ∀ l ∈ ls, ∀ g ∈ l, g.2.size ≤ 9223372036854775807) (hs : ∀ s ∈ path, s.size ≤ 100000000) (hl : path.length ≤ 1000)
    {al : List Nat} (ha : AllN ls path al) :
    Calls Tryz.prog 32 #[v1, v2] w fun e w' => ∃ v, e = .returned (.tuple #[.int .i64 (aN al), v, .bool (!al.isEmpty)]) ∧ Ps w' v (aL ls path al) ∧ Below w.heap.size w w' := by
  have HG := Lib.hid hg
  have HP := Lib.hid hp
  have HA := Lib.hid ha
  have HZ := Lib.hid hz
  have HS := Lib.hid hs
  obtain ⟨A1, c1, rfl⟩ := box_len hg
  obtain ⟨A2, n2, c2, rfl⟩ := hp.shape
  clear hg hp ha hz hs
  go_enter Tryz.func32, Tryz.ntmps32
  go_wp2_with fail
  go_loopw [7, 8, 15] (fun bv pv i wr => ∃ (k : Nat) (b : Int) (A : Option Addr) (n c : Nat), k ≤ ls.length ∧ i = .int .i64 k ∧ bv = .int .i64 b ∧ pv = .slice A n c ∧ Bst ls path k b ∧ Ps wr (.slice A n c) (pLs ls path b) ∧ Below w.heap.size w wr) (fun _ _ i _ => ls.length - (intOf i).toNat)
  case atStart => exact ⟨0, -1, none, 0, 0, Nat.zero_le _, rfl, rfl, rfl, Or.inl ⟨rfl, fun j hj => by omega⟩, ps_nil0 _, Below.refl _ _⟩
  case round =>
    obtain ⟨k, b, A8, n8, c8, hk, rfl, rfl, rfl, hbst, hps, hbw⟩ := hrel
    have HBst := Lib.hid hbst
    have HPs := Lib.hid hps
    have HB := Lib.hid hbw
    clear hps hbw
    by_cases hlt : k < ls.length
    · have d0 : (k : Int) < (ls.length : Int) := by omega
      obtain ⟨A', c', e', _, _, hc⟩ := HG.out
      simp only [Value.slice.injEq] at e'
      obtain ⟨rfl, -, rfl⟩ := e'
      have HC := Lib.hid hc
      obtain ⟨x, o, u, rfl, hcell, hu⟩ := hc k hlt
      have hxl : x < w.heap.size := World.block_lt_of_cell? _ _ hcell
      have g1 : wr.cell? ⟨x, o + k, none⟩ = some u := by rw [HB.out.cell hxl]; exact hcell
      have HU := Lib.hid (hu.call HB.out)
      obtain ⟨Au, nu, cu, rfl⟩ := hu.shape
      clear hcell hu hc
      have XM := Lib.hid (match14 _ _ _ path wr HU.out (HP.out.call HB.out) HS.out hl (HZ.out _ (getD_mem ls k hlt)))
      rcases hm : mtB (ls.getD k default) path with _ | _
      · rw [hm] at XM
        have HN := Lib.hid (HBst.out.skip hm)
        clear hm hbst
        go_wp2_with (first | (go_at_call 48; refine XM.out.mono ?_; rintro e w6 ⟨v6, rfl, hps6, hb6⟩; have B6 := Lib.hid (HB.out.trans (hb6.mono HB.out.size)); have P6 := Lib.hid (HPs.out.call hb6); obtain ⟨A9, n9, c9, hv9⟩ : ∃ A n c, v6 = .slice A n c := (by obtain ⟨A, c, e, _⟩ := hps6; exact ⟨_, _, _, e⟩); subst hv9; clear hps6 hb6))
        go_roundw
        case rel => exact ⟨k + 1, b, A8, n8, c8, by omega, by go_num, rfl, rfl, HN.out, P6.out, B6.out⟩
        case measure => simp [intOf]; omega
      · rw [hm] at XM
        have HMt := Lib.hid hm
        clear hm
        rcases hbst with ⟨rfl, -⟩ | ⟨n, rfl, hn, -⟩
        · have HN := Lib.hid (HBst.out.one HMt.out)
          go_wp2_with (first | (go_at_call 48; refine XM.out.mono ?_; rintro e w6 ⟨v6, rfl, hps6, hb6⟩; have B6 := Lib.hid (HB.out.trans (hb6.mono HB.out.size)); have P6 := Lib.hid hps6; obtain ⟨A9, n9, c9, hv9⟩ : ∃ A n c, v6 = .slice A n c := (by obtain ⟨A, c, e, _⟩ := hps6; exact ⟨_, _, _, e⟩); subst hv9; clear hps6 hb6))
          go_roundw
          case rel =>
            refine ⟨k + 1, k, A9, n9, c9, by omega, by go_num, rfl, rfl, HN.out, ?_, B6.out⟩
            rw [pLs, if_neg (by omega)]
            exact P6.out
          case measure => simp [intOf]; omega
        · obtain ⟨x', o', u', e', hcell', hu'⟩ := HC.out n (by omega)
          cases e'
          obtain ⟨Av, nv, cv, rfl⟩ := hu'.shape
          have HX := Lib.hid hcell'
          have XC := Lib.hid (fun W (hW : Below wr.heap.size wr W) => refCompare12 _ _ _ _ W (HU.out.call hW) (hu'.call (HB.out.trans (hW.mono HB.out.size))) (hf.at k) (hf.at n))
          have HL := Lib.hid (fun hc => HBst.out.less (n := n) HMt.out hc)
          have HR := Lib.hid (fun hc => HBst.out.more (n := n) hc)
          clear hcell' hu'
          generalize cP (ls.getD k default) (ls.getD n default) = r at *
          have d1 : ¬ (n : Int) < 0 := by omega
          have d2 : (n : Int) < (ls.length : Int) := by omega
          have d3 : decide ((n : Int) < 0) = false := by simp
          rcases Int.lt_or_le r 0 with hr | hr
          · have HN := Lib.hid (HL.out hr)
            go_wp2_with (first
              | (go_at_call 48; refine XM.out.mono ?_; rintro e w6 ⟨v6, rfl, hps6, hb6⟩; have B6 := Lib.hid hb6; have P6 := Lib.hid hps6; obtain ⟨A9, n9, c9, hv9⟩ : ∃ A n c, v6 = .slice A n c := (by obtain ⟨A, c, e, _⟩ := hps6; exact ⟨_, _, _, e⟩); subst hv9; have y1 : w6.cell? ⟨x, o + n, none⟩ = some (.slice Av nv cv) := (by rw [(HB.out.trans (hb6.mono HB.out.size)).cell hxl]; exact HX.out); clear hps6 hb6)
              | (go_at_call 49; refine (XC.out _ B6.out).mono ?_; rintro e w7 ⟨rfl, hw7⟩; have D7 := Lib.hid (drB hw7 w6.heap.size); clear hw7))
            go_roundw
            case rel =>
              refine ⟨k + 1, k, A9, n9, c9, by omega, by go_num, rfl, rfl, HN.out, ?_, HB.out.trans ((B6.out.trans (D7.out.mono B6.out.size)).mono HB.out.size)⟩
              rw [pLs, if_neg (by omega)]
              exact P6.out.call D7.out
            case measure => simp [intOf]; omega
          · have hr2 : ¬ r < 0 := by omega
            have HN := Lib.hid (HR.out hr2)
            go_wp2_with (first
              | (go_at_call 48; refine XM.out.mono ?_; rintro e w6 ⟨v6, rfl, hps6, hb6⟩; have B6 := Lib.hid hb6; have P6 := Lib.hid (HPs.out.call hb6); obtain ⟨A9, n9, c9, hv9⟩ : ∃ A n c, v6 = .slice A n c := (by obtain ⟨A, c, e, _⟩ := hps6; exact ⟨_, _, _, e⟩); subst hv9; have y1 : w6.cell? ⟨x, o + n, none⟩ = some (.slice Av nv cv) := (by rw [(HB.out.trans (hb6.mono HB.out.size)).cell hxl]; exact HX.out); clear hps6 hb6)
              | (go_at_call 49; refine (XC.out _ B6.out).mono ?_; rintro e w7 ⟨rfl, hw7⟩; have D7 := Lib.hid (drB hw7 w6.heap.size); clear hw7))
            go_roundw
            case rel => exact ⟨k + 1, n, A8, n8, c8, by omega, by go_num, rfl, rfl, HN.out, P6.out.call D7.out, HB.out.trans ((B6.out.trans (D7.out.mono B6.out.size)).mono HB.out.size)⟩
            case measure => simp [intOf]; omega
    · obtain rfl : k = ls.length := by omega
      obtain ⟨e1, e2, e3⟩ := HBst.out.al HA.out
      have E1 := Lib.hid e1
      have E2 := Lib.hid e2
      have E3 := Lib.hid e3
      clear e1 e2 e3 hbst
      go_wp2_with fail
      go_ret3
      refine ⟨.slice A8 n8 c8, ?_, by rw [← E2.out]; exact HPs.out, HB.out⟩
      rw [← E1.out, ← E3.out]
      rfl
end Go.Proofs.YtnnmbpghkflepaaGreatDoor

namespace Go.Proofs.YtnnmbpghkflepaaGreatDoor
open Go.PlainAid

/-- is a piece the code of a text that isn't empty? -/
def rpB (x : ByteArray) : Bool := decB x && (decide (¬ decS x = ⟨#[]⟩) && decide (encS (decS x) = x))
def rsO (v : ByteArray) : Option (List ByteArray) := if v.size = 0 then some [] else if (spl 47 v).all rpB then some ((spl 47 v).map decS) else none
def rgO (g : Sg) (ps : List Pr) : Option (List ByteArray × Nat) :=
  if g.1 = 0 then some ([g.2], 0) else match gtF ps g.2 with
    | none => if g.1 = 2 then some ([], 0) else none
    | some v => if g.1 = 3 then (rsO v).map (fun x => (x, 1)) else if v.size = 0 then none else some ([v], 1)
def rbR : List Sg → List Pr → Option (List ByteArray × Nat)
  | [], _ => some ([], 0)
  | g :: r, ps => match rgO g ps with
    | none => none
    | some x => (rbR r ps).map (fun y => (x.1 ++ y.1, x.2 + y.2))
def rbO (l : List Sg) (ps : List Pr) : Option (List ByteArray) :=
  if rgB l then match rbR l ps with
    | none => none
    | some y => if y.2 = ps.length ∧ rightB y.1 [] = true then some y.1 else none
  else none

/-! pieces and what is joined of them -/
theorem rf_splL_jn : ∀ (a : List (List Int)), a ≠ [] → (∀ p ∈ a, ∀ c ∈ p, c ≠ 47) → splL 47 (jnL a) = a := by
  intro a
  induction a with
  | nil => intro h; exact absurd rfl h
  | cons x r ih =>
    intro _ h
    cases r with
    | nil => exact splL_none 47 x (h x (by simp))
    | cons y r' =>
      show splL 47 (x ++ 47 :: jnL (y :: r')) = _
      rw [splL_mark 47 x _ (h x (by simp)), ih (by simp) (fun p hp => h p (by simp only [List.mem_cons] at hp ⊢; exact Or.inr hp))]
theorem rf_jn_splL (l : List Int) : jnL (splL 47 l) = l ∧ splL 47 l ≠ [] ∧ ∀ p ∈ splL 47 l, ∀ c ∈ p, c ≠ 47 := by
  generalize hn : l.length = n
  induction n using Nat.strongRecOn generalizing l with
  | _ n ih =>
    rcases first_mark 47 l with hm | ⟨p, r, rfl, hm⟩
    · rw [splL_none 47 l hm]
      exact ⟨rfl, by simp, fun q hq => by simp at hq; subst hq; exact hm⟩
    · obtain ⟨h1, h2, h3⟩ := ih r.length (by rw [← hn]; simp; omega) r rfl
      rw [splL_mark 47 p r hm]
      refine ⟨?_, by simp, fun q hq => ?_⟩
      · cases hs : splL 47 r with
        | nil => exact absurd hs h2
        | cons a b =>
          show p ++ 47 :: jnL (a :: b) = _
          rw [← hs, h1]
      · rw [List.mem_cons] at hq
        rcases hq with rfl | hq
        · exact hm
        · exact h3 q hq
theorem rf_splL_inR {l : List Int} (h : InR l) : ∀ p ∈ splL 47 l, InR p := by
  generalize hn : l.length = n
  induction n using Nat.strongRecOn generalizing l with
  | _ n ih =>
    rcases first_mark 47 l with hm | ⟨p, r, rfl, hm⟩
    · rw [splL_none 47 l hm]
      intro q hq
      simp at hq
      subst hq
      exact h
    · rw [splL_mark 47 p r hm]
      intro q hq
      rw [List.mem_cons] at hq
      rcases hq with rfl | hq
      · exact fun x hx => h x (by simp [hx])
      · exact ih r.length (by rw [← hn]; simp; omega) (fun x hx => h x (by simp [hx])) rfl q hq
theorem spN_all {v : ByteArray} (h : (spl 47 v).length ≤ 9) : spN 47 8 v = spl 47 v := by
  rw [spN, spl, splNL_all 47 8 _ (by rw [spl, List.length_map] at h; exact h)]
theorem spl_few {v : ByteArray} (h : (spN 47 8 v).length ≤ 8) : (spl 47 v).length ≤ 8 := by
  rw [spN, List.length_map] at h
  rw [spl, List.length_map]
  rcases Nat.lt_or_ge (splL 47 (bs v)).length 9 with h1 | h1
  · omega
  · have := splNL_more 47 8 (bs v) h1
    omega
theorem jn_of_codes {v : ByteArray} (h : ∀ x ∈ spl 47 v, encS (decS x) = x) : jnT ((spl 47 v).map decS) = v := by
  apply bs_inj
  rw [jnT, bs_st (jn_inR _)]
  have e : ((spl 47 v).map decS).map (fun s => encL (bs s)) = splL 47 (bs v) := by
    rw [List.map_map, spl, List.map_map]
    conv => rhs; rw [← List.map_id (splL 47 (bs v))]
    apply List.map_congr_left
    intro p hp
    have h1 := h (st p) (by rw [spl, List.mem_map]; exact ⟨p, hp, rfl⟩)
    have h2 := congrArg bs h1
    rw [encS, bs_st (encL_inR (bs_inR _)), bs_st (rf_splL_inR (bs_inR v) p hp)] at h2
    exact h2
  rw [e, (rf_jn_splL (bs v)).1]
theorem codes_of_jn {v : ByteArray} {x : List ByteArray} (hv : v = jnT x) (hx : x = (spl 47 v).map decS) : ∀ p ∈ spl 47 v, encS (decS p) = p := by
  have hne : x ≠ [] := by
    rw [hx]
    intro e
    have := congrArg List.length e
    rw [List.length_map] at this
    have h1 := spl_ne 47 v
    have h2 : (spl 47 v).length = 0 := this
    omega
  have e1 : splL 47 (bs v) = x.map (fun s => encL (bs s)) := by
    rw [hv, jnT, bs_st (jn_inR _)]
    refine rf_splL_jn _ (by simpa using hne) (fun p hp => ?_)
    rw [List.mem_map] at hp
    obtain ⟨s, _, rfl⟩ := hp
    exact enc_no47 (bs s) (bs_inR s)
  have e2 : spl 47 v = x.map encS := by
    rw [spl, e1, List.map_map]
    rfl
  have e3 : spl 47 v = ((spl 47 v).map decS).map encS := by rw [← hx]; exact e2
  intro p hp
  obtain ⟨i, hi, rfl⟩ := List.getElem_of_mem hp
  have h5 : ((spl 47 v).map decS).map encS = (spl 47 v).map (fun p => encS (decS p)) := by rw [List.map_map]; rfl
  rw [h5] at e3
  have h6 := List.getElem_of_eq e3.symm (by simpa using hi)
  simpa using h6

/-! kinds: those that end stand last -/
def Kin (l : List Sg) : Prop := (∀ g ∈ l, g.1 = 0 ∨ g.1 = 1 ∨ g.1 = 2 ∨ g.1 = 3) ∧ ∀ i, i + 1 < l.length → (l.getD i default).1 = 0 ∨ (l.getD i default).1 = 1
theorem kin_of {l : List Sg} (h : rgB l = true) : Kin l := ⟨fun _ hg => (ok_parts h hg).2, rg_pre h⟩
theorem Kin.tail {g : Sg} {r : List Sg} (h : Kin (g :: r)) : Kin r := by
  refine ⟨fun x hx => h.1 x (by simp [hx]), fun i hi => ?_⟩
  have := h.2 (i + 1) (by simp; omega)
  simpa [List.getD] using this
theorem Kin.last {g : Sg} {r : List Sg} (h : Kin (g :: r)) (hk : g.1 = 2 ∨ g.1 = 3) : r = [] := by
  cases r with
  | nil => rfl
  | cons y r' =>
    have := h.2 0 (by simp)
    simp [List.getD] at this
    omega

theorem mt_c0 (t : ByteArray) (r : List Sg) (y : List ByteArray) : mtR ((0, t) :: r) (t :: y) = mtR r y := by
  rw [mtR, show tkN ((0 : Int), t) (t :: y) = some 1 by rw [tkN, if_neg (by simp), if_neg (by simp), if_neg (by simp), if_neg (by simp)]]
  show (mtR r y).map (fun q => [] ++ q) = _
  simp
theorem mt_c1 (t v : ByteArray) (r : List Sg) (y : List ByteArray) : mtR ((1, t) :: r) (v :: y) = (mtR r y).map (fun q => (t, v) :: q) := by
  rw [mtR, show tkN ((1 : Int), t) (v :: y) = some 1 by rw [tkN, if_neg (by simp), if_neg (by simp), if_neg (by simp), if_neg (by simp)]]
  rfl
theorem mt_c2 (t v : ByteArray) : mtR [(2, t)] [v] = some [(t, v)] := rfl
theorem mt_c2n (t : ByteArray) : mtR [(2, t)] [] = some [] := rfl
theorem mt_c3 (t : ByteArray) (y : List ByteArray) : mtR [(3, t)] y = some [(t, jnT y)] := by
  rw [mtR, show tkN ((3 : Int), t) y = some y.length by rw [tkN, if_neg (by simp), if_pos rfl]]
  simp only [List.drop_length, List.take_length]
  rfl

theorem rs_sp {v : ByteArray} {ys : List ByteArray} (h : rsO v = some ys) (hl : ys.length ≤ 8) : spO v = some ys ∧ jnT ys = v := by
  unfold rsO at h
  split at h
  · rename_i h0
    cases h
    refine ⟨by rw [spO, if_pos h0], ?_⟩
    apply bs_inj
    have : bs v = [] := List.eq_nil_of_length_eq_zero (by rw [bs_len]; exact h0)
    rw [this]
    rfl
  · rename_i h0
    split at h
    · rename_i ha
      cases h
      rw [List.all_eq_true] at ha
      rw [List.length_map] at hl
      have e := spN_all (v := v) (by omega)
      refine ⟨?_, jn_of_codes (fun x hx => ?_)⟩
      · rw [spO, if_neg h0, e, if_pos]
        rw [List.all_eq_true]
        intro x hx
        have := ha x hx
        rw [rpB, Bool.and_eq_true] at this
        exact this.1
      · have := ha x hx
        rw [rpB, Bool.and_eq_true, Bool.and_eq_true] at this
        exact of_decide_eq_true this.2.2
    · cases h
theorem sp_rs {v : ByteArray} {ys : List ByteArray} (h : spO v = some ys) (hl : ys.length ≤ 8) (hs : ∀ s ∈ ys, 1 ≤ s.size) (hv : v = jnT ys) : rsO v = some ys := by
  unfold spO at h
  split at h
  · rename_i h0
    cases h
    rw [rsO, if_pos h0]
  · rename_i h0
    split at h
    · rename_i ha
      have hy : (spN 47 8 v).map decS = ys := by simpa using h
      have hl2 : (spN 47 8 v).length ≤ 8 := by rw [← hy, List.length_map] at hl; exact hl
      have e := spN_all (v := v) (by have := spl_few hl2; omega)
      rw [e] at hy ha
      have hc := codes_of_jn hv hy.symm
      rw [rsO, if_neg h0, if_pos, hy]
      rw [List.all_eq_true] at ha ⊢
      intro x hx
      have h1 : 1 ≤ (decS x).size := hs _ (by rw [← hy, List.mem_map]; exact ⟨x, hx, rfl⟩)
      rw [rpB, ha x hx, decide_eq_true (hc x hx), decide_eq_true]
      · rfl
      · intro e
        rw [e] at h1
        exact absurd h1 (by decide)
    · cases h

theorem rb_fwd : ∀ (l : List Sg) (ps : List Pr) (xs : List ByteArray) (n : Nat), Kin l → rbR l ps = some (xs, n) → xs.length ≤ 8 → bdR l ps = some xs ∧ ∃ q, mtR l xs = some q ∧ q.length = n ∧ ∀ p ∈ q, p ∈ ps := by
  intro l
  induction l with
  | nil =>
    intro ps xs n _ h _
    cases h
    exact ⟨rfl, [], rfl, rfl, by simp⟩
  | cons g r ih =>
    intro ps xs n hk h hl
    obtain ⟨g1, g2⟩ := g
    rw [rbR] at h
    cases hg : rgO (g1, g2) ps with
    | none => rw [hg] at h; cases h
    | some x =>
      rw [hg] at h
      cases hy : rbR r ps with
      | none => rw [hy] at h; cases h
      | some y =>
        rw [hy] at h
        simp only [Option.map_some, Option.some.injEq, Prod.mk.injEq] at h
        obtain ⟨rfl, rfl⟩ := h
        obtain ⟨y1, y2⟩ := y
        simp only [List.length_append] at hl
        obtain ⟨b1, q, b2, b3, b4⟩ := ih ps y1 y2 hk.tail hy (by omega)
        have hkind := hk.1 (g1, g2) (by simp)
        simp only at hkind
        unfold rgO at hg
        rw [bdR]
        rcases hkind with rfl | rfl | rfl | rfl
        · rw [if_pos rfl] at hg
          cases hg
          refine ⟨by rw [gvO, if_pos rfl, b1]; rfl, q, ?_, by simp [b3], b4⟩
          show mtR ((0, g2) :: r) (g2 :: y1) = _
          rw [mt_c0, b2]
        · rw [if_neg (by simp)] at hg
          cases hv : gtF ps g2 with
          | none => rw [hv] at hg; cases hg
          | some v =>
            rw [hv] at hg
            simp only at hg
            rw [if_neg (by simp)] at hg
            split at hg
            · cases hg
            · cases hg
              refine ⟨by rw [gvO, if_neg (by simp), hv]; simp only; rw [if_neg (by simp), b1]; rfl, (g2, v) :: q, ?_, by simp [b3]; omega, ?_⟩
              · show mtR ((1, g2) :: r) (v :: y1) = _
                rw [mt_c1, b2]; rfl
              · intro p hp
                rw [List.mem_cons] at hp
                rcases hp with rfl | hp
                · exact gt_some hv
                · exact b4 p hp
        · obtain rfl := hk.last (Or.inl rfl)
          cases hy
          rw [if_neg (by simp)] at hg
          cases hv : gtF ps g2 with
          | none =>
            rw [hv] at hg
            simp only at hg
            rw [if_pos trivial] at hg
            cases hg
            exact ⟨by rw [gvO, if_neg (by simp), hv]; rfl, [], rfl, rfl, by simp⟩
          | some v =>
            rw [hv] at hg
            simp only at hg
            rw [if_neg (by simp)] at hg
            split at hg
            · cases hg
            · cases hg
              refine ⟨by rw [gvO, if_neg (by simp), hv]; rfl, [(g2, v)], rfl, rfl, ?_⟩
              intro p hp
              rw [List.mem_singleton] at hp
              subst hp
              exact gt_some hv
        · obtain rfl := hk.last (Or.inr rfl)
          cases hy
          rw [if_neg (by simp)] at hg
          cases hv : gtF ps g2 with
          | none => rw [hv] at hg; cases hg
          | some v =>
            rw [hv] at hg
            simp only at hg
            rw [if_pos trivial] at hg
            cases hys : rsO v with
            | none => rw [hys] at hg; cases hg
            | some ys =>
              rw [hys] at hg
              cases hg
              simp only [List.append_nil]
              obtain ⟨e1, e2⟩ := rs_sp hys (by simp at hl; omega)
              refine ⟨by rw [gvO, if_neg (by simp), hv]; simp only; rw [if_pos trivial, e1]; simp [bdR], [(g2, jnT ys)], mt_c3 _ _, rfl, ?_⟩
              intro p hp
              rw [List.mem_singleton] at hp
              subst hp
              rw [e2]
              exact gt_some hv
theorem rb_bwd : ∀ (l : List Sg) (ps : List Pr) (xs : List ByteArray) (q : List Pr), Kin l → bdR l ps = some xs → xs.length ≤ 8 → (∀ s ∈ xs, 1 ≤ s.size) → mtR l xs = some q → (∀ p ∈ q, gtF ps p.1 = some p.2) → rbR l ps = some (xs, q.length) := by
  intro l
  induction l with
  | nil =>
    intro ps xs q _ h _ _ hm _
    cases h
    rw [show mtR [] [] = some [] from rfl] at hm
    cases hm
    rfl
  | cons g r ih =>
    intro ps xs q hk h hl hs hm hu
    obtain ⟨g1, g2⟩ := g
    rw [bdR] at h
    cases hg : gvO (g1, g2) ps with
    | none => rw [hg] at h; cases h
    | some x =>
      rw [hg] at h
      cases hy : bdR r ps with
      | none => rw [hy] at h; cases h
      | some y =>
        rw [hy] at h
        simp only [Option.map_some, Option.some.injEq] at h
        subst h
        have hkind := hk.1 (g1, g2) (by simp)
        simp only at hkind
        unfold gvO at hg
        rw [rbR]
        rw [List.length_append] at hl
        have hsy : ∀ s ∈ y, 1 ≤ s.size := fun s hs' => hs s (by simp [hs'])
        rcases hkind with rfl | rfl | rfl | rfl
        · rw [if_pos rfl] at hg
          cases hg
          have hm : mtR ((0, g2) :: r) (g2 :: y) = some q := hm
          rw [mt_c0] at hm
          rw [rgO, if_pos rfl]
          simp only
          rw [ih ps y q hk.tail hy (by omega) hsy hm hu]
          simp
        · rw [if_neg (by simp)] at hg
          cases hv : gtF ps g2 with
          | none => rw [hv] at hg; cases hg
          | some v =>
            rw [hv] at hg
            simp only at hg
            rw [if_neg (by simp)] at hg
            cases hg
            have hm : mtR ((1, g2) :: r) (v :: y) = some q := hm
            rw [mt_c1] at hm
            cases hq : mtR r y with
            | none => rw [hq] at hm; cases hm
            | some q' =>
              rw [hq] at hm
              cases hm
              have hv1 := hs v (by simp)
              rw [rgO, if_neg (by simp), hv]
              simp only
              rw [if_neg (by simp), if_neg (by omega)]
              simp only
              rw [ih ps y q' hk.tail hy (by omega) hsy hq (fun p hp => hu p (by simp [hp]))]
              simp
              omega
        · obtain rfl := hk.last (Or.inl rfl)
          cases hy
          rw [if_neg (by simp)] at hg
          cases hv : gtF ps g2 with
          | none =>
            rw [hv] at hg
            simp only at hg
            rw [if_pos trivial] at hg
            cases hg
            have hm : mtR [(2, g2)] [] = some q := hm
            rw [mt_c2n] at hm
            cases hm
            rw [rgO, if_neg (by simp), hv]
            rfl
          | some v =>
            rw [hv] at hg
            simp only at hg
            rw [if_neg (by simp)] at hg
            cases hg
            have hm : mtR [(2, g2)] [v] = some q := hm
            rw [mt_c2] at hm
            cases hm
            have hv1 := hs v (by simp)
            rw [rgO, if_neg (by simp), hv]
            simp only
            rw [if_neg (by simp), if_neg (by omega)]
            rfl
        · obtain rfl := hk.last (Or.inr rfl)
          cases hy
          rw [if_neg (by simp)] at hg
          cases hv : gtF ps g2 with
          | none => rw [hv] at hg; cases hg
          | some v =>
            rw [hv] at hg
            simp only at hg
            rw [if_pos trivial] at hg
            simp only [List.append_nil] at hm hs ⊢
            rw [mt_c3] at hm
            cases hm
            have hu1 := hu (g2, jnT x) (by simp)
            simp only at hu1
            rw [hv] at hu1
            cases hu1
            have := sp_rs hg (by simp at hl; omega) hs rfl
            rw [rgO, if_neg (by simp), hv]
            simp only
            rw [if_pos trivial, this]
            simp [rbR]
theorem pig {α : Type} [DecidableEq α] : ∀ (a b : List α), a.Nodup → (∀ x ∈ a, x ∈ b) → a.length = b.length → ∀ x ∈ b, x ∈ a := by
  intro a
  induction a with
  | nil =>
    intro b _ _ hl x hx
    cases b with
    | nil => cases hx
    | cons _ _ => simp at hl
  | cons y r ih =>
    intro b hnd hsub hl x hx
    have hy : y ∈ b := hsub y (by simp)
    rw [List.nodup_cons] at hnd
    by_cases e : x = y
    · subst e; simp
    · have h1 := ih (b.erase y) hnd.2 (fun z hz => (List.mem_erase_of_ne (fun e => hnd.1 (by rw [← e]; exact hz))).2 (hsub z (by simp [hz]))) (by rw [List.length_erase_of_mem hy]; simp at hl; omega) x ((List.mem_erase_of_ne e).2 hx)
      simp [h1]
theorem rb_is (l : List Sg) (ps : List Pr) : rbO l ps = bdO l ps := by
  unfold rbO bdO
  by_cases hr : rgB l = true
  · rw [if_pos hr, if_pos hr]
    have hk := kin_of hr
    cases hb : bdR l ps with
    | none =>
      simp only
      cases hR : rbR l ps with
      | none => rfl
      | some y =>
        obtain ⟨xs, n⟩ := y
        simp only
        rw [if_neg]
        rintro ⟨_, h2⟩
        have := (rb_fwd l ps xs n hk hR (right_parts h2).1).1
        rw [hb] at this
        cases this
    | some path =>
      simp only
      by_cases hc : (rightB path [] && (mtB l path && smB (mtL l path) ps)) = true
      · rw [if_pos hc]
        rw [Bool.and_eq_true, Bool.and_eq_true] at hc
        obtain ⟨c1, c2, c3⟩ := hc
        rw [(mt_some hr).1] at c2
        rw [(mt_some hr).2] at c3
        obtain ⟨q, hq⟩ := Option.isSome_iff_exists.1 c2
        rw [hq] at c3
        simp only [Option.getD_some] at c3
        rw [smB, Bool.and_eq_true, List.all_eq_true] at c3
        have d1 := of_decide_eq_true c3.1
        have d2 : ∀ p ∈ q, p ∈ ps := by
          intro p hp
          have := c3.2 p hp
          rw [List.any_eq_true] at this
          obtain ⟨z, hz, e⟩ := this
          rw [← of_decide_eq_true e]
          exact hz
        have hnd : (q.map (·.1)).Nodup := (mt_names l path q hq).nodup (prm_nodup hr)
        have hndq : q.Nodup := by
          refine List.Pairwise.of_map (f := (·.1)) (S := fun a b => a ≠ b) ?_ hnd
          intro a b h e
          exact h (by rw [e])
        have d3 := pig q ps hndq d2 d1
        have := rb_bwd l ps path q hk hb (right_parts c1).1 (right_parts c1).2 hq (gt_perm hnd d3 d2).1
        rw [this]
        simp only
        rw [if_pos ⟨d1, c1⟩]
      · rw [if_neg hc]
        cases hR : rbR l ps with
        | none => rfl
        | some y =>
          obtain ⟨xs, n⟩ := y
          simp only
          rw [if_neg]
          rintro ⟨h1, h2⟩
          obtain ⟨b1, q, b2, b3, b4⟩ := rb_fwd l ps xs n hk hR (right_parts h2).1
          rw [hb] at b1
          cases b1
          apply hc
          rw [Bool.and_eq_true, Bool.and_eq_true]
          refine ⟨h2, by rw [(mt_some hr).1, b2]; rfl, ?_⟩
          rw [(mt_some hr).2, b2]
          exact sm_of (by rw [Option.getD_some, b3, h1]) b4
  · rw [if_neg hr, if_neg hr]
end Go.Proofs.YtnnmbpghkflepaaGreatDoor
