/-
  Put together: RRs.
-/
import Derived.Test.YthigandmemifoaaGreatDoorP11
import Derived.Test.YthigandmemifoaaGreatDoorP22
import Derived.Test.YthigandmemifoaaGreatDoorP14
namespace Go.Proofs.YthigandmemifoaaGreatDoor
open Go.RowKit Go.PlainAid
set_option maxRecDepth 100000

theorem wpList_mkL {ops : Array Oper} {rest : List Oper} {o : Oper} {a : Act} {Q : Exit → Act → World → Prop} (w : World) (hg : o.guard = none) (l c : Operand) (hop : o.op = Op.makeSlice 103 l c)
    (B : Nat) (w0 : World) (hb : Below B w0 w) (hB : B ≤ w.heap.size)
    (C : Int) (n : Nat) (hl : a.eval l = .int .i64 0) (hc : a.eval c = .int .i64 C) (hC : C = (n : Int)) (hn : n ≤ 1000000000)
    (hK : ∀ v w', OwnL B w0 v [] w' → Below w.heap.size w w' → wpList Tryz.prog ops Q rest (a.put o.dst v) w') : wpList Tryz.prog ops Q (o :: rest) a w := by
  obtain ⟨i0, hi, hz0, hz1, hz2⟩ := info_parts info24
  refine wpList_make_own w hg l c 103 hop B 24 i0 (.slice none 0 0) 1 Tryz.underlying103 hi hz0 hz1 .i64 .i64 C n hl hc hC (by rw [hz2]; omega) (by unfold maxLen; omega) hB ?_
  intro w' h1 h2
  exact hK _ w' ⟨[], h1, hb.grown h2 hB (fun k hk => by cases hk), by have := h2.size; omega, fun i hi => by simp at hi⟩ ((Below.refl _ w).grown h2 (Nat.le_refl _) (fun k hk => by cases hk))

/-- all full patterns -/
def fusL (l : List Rc) (k : Nat) : List (List Sg) := (List.range k).map (fun i => fuL l (i : Nat))
theorem fus_len (l : List Rc) (k : Nat) : (fusL l k).length = k := by simp [fusL]
theorem fus_next (l : List Rc) (k : Nat) : fusL l (k + 1) = fusL l k ++ [fuL l (k : Nat)] := by simp [fusL, List.range_succ]

set_option maxHeartbeats 6400000 in
theorem resolve9_no (v : Value) (l : List Rc) (A2 : Option Addr) (n2 c2 : Nat) (w : World) (h : Rs w v l) (hf : Fit l) (hr : rtB l = false) :
    Calls Tryz.prog 40 #[v, .slice A2 n2 c2] w fun e w' => e = .returned (.tuple #[.int .i64 (-1), .slice none 0 0, .bool false]) ∧ Below w.heap.size w w' := by
  have HR := Lib.hid (right11 v l w h hf)
  rw [hr] at HR
  obtain ⟨A, n, c, rfl⟩ := h.shape
  clear h
  go_enter Tryz.func40, Tryz.ntmps40
  go_wp2_with (first | (go_at_call 61; refine HR.out.mono ?_; rintro e w1 ⟨rfl, h1⟩; have H1 := Lib.hid h1; clear h1))
  go_ret3
  exact ⟨rfl, H1.out⟩

set_option maxHeartbeats 6400000 in
theorem resolve9_yes (v : Value) (l : List Rc) (pv : Value) (path : List ByteArray) (w : World) (h : Rs w v l) (hf : Fit l) (hr : rtB l = true) (h12 : l.length ≤ 1000)
    (hp : Ss w pv path) (hsz : ∀ s ∈ path, s.size ≤ 100000000) (hpl : path.length ≤ 1000) {al : List Nat} (ha : AllN (fusL l l.length) path al) :
    Calls Tryz.prog 40 #[v, pv] w fun e w' => ∃ u, e = .returned (.tuple #[.int .i64 (aN al), u, .bool (!al.isEmpty)]) ∧ Ps w' u (aL (fusL l l.length) path al) ∧ Below w.heap.size w w' := by
  have HS := Lib.hid h
  have HF := Lib.hid hf
  have HP := Lib.hid hp
  have HZ := Lib.hid hsz
  have HA := Lib.hid ha
  have HR := Lib.hid (right11 v l w h hf)
  rw [hr] at HR
  obtain ⟨A, cap, rfl⟩ := h.len
  obtain ⟨A2, n2, c2, rfl⟩ := hp.shape
  clear h hf hp hsz ha
  go_enter Tryz.func40, Tryz.ntmps40
  go_wp2_with (first
    | (go_at_call 61; refine HR.out.mono ?_; rintro e w1 ⟨rfl, h1⟩; have H1 := Lib.hid h1; clear h1)
    | (at_make; refine wpList_mkL _ rfl _ _ rfl w.heap.size w H1.out H1.out.size (l.length : Int) l.length rfl rfl rfl (by omega) ?_; intro v2 w2 h2 hb2; have H2 := Lib.hid h2; clear hb2; obtain ⟨A5, n5, c5, e5⟩ := h2.shape; subst e5; clear h2))
  go_loopw [7, 17] (fun s7 s17 wr => ∃ (k : Nat), k ≤ l.length ∧ s17 = .int .i64 k ∧ Hid (OwnL w.heap.size w s7 (fusL l k) wr)) (fun _ s17 _ => l.length - (intOf s17).toNat)
  case atStart => exact ⟨0, Nat.zero_le _, rfl, H2.out⟩
  case round =>
    obtain ⟨k, hk, rfl, HO⟩ := hrel
    have HB := Lib.hid HO.out.below
    obtain ⟨A6, n6, c6, h6⟩ := HO.out.shape
    subst h6
    by_cases hlt : k < l.length
    · have d0 : (k : Int) < (l.length : Int) := by omega
      go_wp2_with (first
        | (go_at_call 62; refine (full21 _ l k _ (HS.out.call HB.out) HF.out).mono ?_; rintro e w3 ⟨u3, rfl, h3⟩; have H3 := Lib.hid h3; obtain ⟨A8, n8, c8, e8⟩ := h3.gs.shape; subst e8; clear h3)
        | (at_builtin; refine wpList_appL (w := w3.alloc (.cells #[.slice A8 n8 c8] 24 (0, 0))) rfl (.tmp 20) (.tmp 24) rfl rfl ((HO.out.call H3.out.2.1).alloc (.cells #[.slice A8 n8 c8] 24 (0, 0))) (by rw [fus_len]; omega) _ 1 1 [fuL l (k : Nat)] rfl rfl (by omega) (by omega) (fun e => by cases e) (one_src (blk_new w3 (.cells #[.slice A8 n8 c8] 24 (0, 0))) (H3.out.gt.call ((Below.refl _ _).alloc (Nat.le_refl _) _))) ?_; intro v9 w9 h9 hg9; have H9 := Lib.hid h9; obtain ⟨A9, n9, c9, e9⟩ := h9.shape; subst e9; clear h9 hg9))
      go_roundw
      case rel =>
        refine ⟨k + 1, by omega, by go_num, ?_⟩
        rw [fus_next]
        exact H9.out
      case measure => simp [intOf]; omega
    · obtain rfl : k = l.length := by omega
      go_wp2_with (first
        | (go_at_call 63; refine (trieNew _ _ _ HO.out.gss (by rw [fus_len]; omega)).mono ?_; rintro e w3 ⟨T, rfl, h3, hb3⟩; have H3 := Lib.hid h3; have B3 := Lib.hid (HB.out.trans (hb3.mono HB.out.size)); clear h3 hb3)
        | (go_at_call 64; refine (trieFind H3.out _ path (HP.out.call B3.out) HZ.out hpl HA.out).mono ?_; rintro e w4 ⟨v4, rfl, h4, hb4⟩; have H4 := Lib.hid h4; have B4 := Lib.hid (B3.out.trans (hb4.mono B3.out.size)); clear h4 hb4))
      go_ret3
      exact ⟨_, rfl, H4.out, B4.out⟩

/-- what Reverse answers -/
def rvB (l : List Rc) (s : ByteArray) (q : List Pr) : Bool := decide (nmI l s ≠ -1) && (rtB l && bdB (fuL l (nmI l s)) q)
def rvL (l : List Rc) (s : ByteArray) (q : List Pr) : List ByteArray := if nmI l s = -1 ∨ rtB l = false then [] else bdL (fuL l (nmI l s)) q

set_option maxHeartbeats 6400000 in
theorem reverse16 (v : Value) (l : List Rc) (s : ByteArray) (pv : Value) (q : List Pr) (w : World) (h : Rs w v l) (hf : Fit l) (hq : Ps w pv q) (hz : q.length ≤ 1000000000) (hs : ∀ p ∈ q, p.2.size ≤ 100000000) :
    Calls Tryz.prog 42 #[v, .string s, pv] w fun e w' => ∃ u, e = .returned (.tuple #[u, .bool (rvB l s q)]) ∧ Ss w' u (rvL l s q) ∧ Below w.heap.size w w' := by
  have HS := Lib.hid h
  have HF := Lib.hid hf
  have HQ := Lib.hid hq
  have HZ := Lib.hid hs
  have HN := Lib.hid (named14 v l s w h (by have := hf.1; omega))
  have eB : rvB l s q = (decide (nmI l s ≠ -1) && (rtB l && bdB (fuL l (nmI l s)) q)) := rfl
  have eL : rvL l s q = (if nmI l s = -1 ∨ rtB l = false then [] else bdL (fuL l (nmI l s)) q) := rfl
  rw [eB, eL]
  clear eB eL
  obtain ⟨A, n, c, rfl⟩ := h.shape
  obtain ⟨A2, n2, c2, rfl⟩ := hq.shape
  clear h hf hq hs
  generalize nmI l s = nm at *
  by_cases hn : nm = -1
  · subst hn
    rw [if_pos (Or.inl rfl), decide_eq_false (fun h => h rfl), Bool.false_and]
    go_enter Tryz.func42, Tryz.ntmps42
    go_wp2_with (first | (go_at_call 66; refine HN.out.mono ?_; rintro e w1 ⟨rfl, h1⟩; have H1 := Lib.hid h1; clear h1))
    go_ret2
    exact ⟨_, rfl, ss_nil _, H1.out⟩
  · rw [decide_eq_true hn, Bool.true_and]
    have c0 : (nm == -1) = false := by simpa using hn
    by_cases hr : rtB l = true
    · rw [if_neg (by rw [hr]; simp [hn]), hr, Bool.true_and]
      have HR := Lib.hid hr
      clear hr hn
      go_enter Tryz.func42, Tryz.ntmps42
      go_wp2_with (first
        | (go_at_call 66; refine HN.out.mono ?_; rintro e w1 ⟨rfl, h1⟩; have H1 := Lib.hid h1; clear h1)
        | (go_at_call 61; refine (right11 _ l _ (HS.out.call H1.out) HF.out).mono ?_; rintro e w2 ⟨rfl, h2⟩; rw [HR.out]; have H2 := Lib.hid (H1.out.trans (h2.mono H1.out.size)); clear h2)
        | (go_at_call 62; refine (full21 _ l nm _ (HS.out.call H2.out) HF.out).mono ?_; rintro e w3 ⟨u3, rfl, h3⟩; have G3 := Lib.hid h3.gs; have H3 := Lib.hid (H2.out.trans (h3.2.1.mono H2.out.size)); obtain ⟨A8, n8, c8, e8⟩ := h3.gs.shape; subst e8; clear h3)
        | (go_at_call 67; refine (build9 _ _ (fuL l nm) q _ G3.out (HQ.out.call H3.out) hz HZ.out).mono ?_; rintro e w4 ⟨v4, rfl, h4, hb4⟩; have S4 := Lib.hid h4; have H4 := Lib.hid (H3.out.trans (hb4.mono H3.out.size)); clear h4 hb4))
      go_ret2
      exact ⟨_, rfl, S4.out, H4.out⟩
    · have hr : rtB l = false := by simpa using hr
      rw [if_pos (Or.inr hr), hr, Bool.false_and]
      have HR := Lib.hid hr
      clear hr hn
      go_enter Tryz.func42, Tryz.ntmps42
      go_wp2_with (first
        | (go_at_call 66; refine HN.out.mono ?_; rintro e w1 ⟨rfl, h1⟩; have H1 := Lib.hid h1; clear h1)
        | (go_at_call 61; refine (right11 _ l _ (HS.out.call H1.out) HF.out).mono ?_; rintro e w2 ⟨rfl, h2⟩; rw [HR.out]; have H2 := Lib.hid (H1.out.trans (h2.mono H1.out.size)); clear h2))
      go_ret2
      exact ⟨_, rfl, ss_nil _, H2.out⟩
end Go.Proofs.YthigandmemifoaaGreatDoor
