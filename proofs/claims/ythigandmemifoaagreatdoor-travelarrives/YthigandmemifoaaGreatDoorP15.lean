/-
  Put together: RefWord, RefRight.
-/
import Derived.Test.YthigandmemifoaaGreatDoorP07
import Derived.Test.YthigandmemifoaaGreatDoorP14
import Derived.Maps.OwnOps
import Derived.Maps.Views
namespace Go.Proofs.YthigandmemifoaaGreatDoor
open Go.RowKit Go.PlainAid Go.Maps

set_option maxHeartbeats 1600000 in
theorem word39 (s : ByteArray) (w : World) (hs : s.size ≤ 9223372036854775807) : Calls Tryz.prog 89 #[.string s] w fun e w' => e = .returned (.bool (txB s)) ∧ w' = w := by
  have gb := get_bt s
  go_enter Tryz.func89, Tryz.ntmps89
  go_wp2_with fail
  go_loopw [3] (fun i wr => ∃ k : Nat, k ≤ s.size ∧ i = .int .i64 k ∧ ((bs s).take k).all lc = true ∧ wr = w) (fun i _ => s.size - (intOf i).toNat)
  case atStart => exact ⟨0, Nat.zero_le _, rfl, by simp, rfl⟩
  case round =>
    obtain ⟨k, hk, rfl, hall, rfl⟩ := hrel
    have HA := Lib.hid hall
    clear hall
    by_cases hlt : k < s.size
    · have c0 : (k : Int) < (s.size : Int) := by omega
      have HL := Lib.hid (lc_next s k hlt)
      have HN := Lib.hid (lc_not s k hlt)
      by_cases hp : lc (bt s k) = true
      · have HP := Lib.hid hp
        have hp : (97 ≤ bt s k ∧ bt s k ≤ 122) ∨ (48 ≤ bt s k ∧ bt s k ≤ 57) := of_decide_eq_true hp
        rcases hp with ⟨p1, p2⟩ | ⟨p1, p2⟩
        all_goals
          go_wp2_with fail
          all_goals
            go_roundw
            case rel => exact ⟨k + 1, by omega, by go_num, by rw [HL.out, HA.out, HP.out]; rfl, trivial⟩
            case measure => simp [intOf]; omega
      · have hp : lc (bt s k) = false := by simpa using hp
        have E1 : Hid (txB s = false) := by show _ = _; rw [txB, HN.out hp, Bool.and_false]
        have hp : ¬ ((97 ≤ bt s k ∧ bt s k ≤ 122) ∨ (48 ≤ bt s k ∧ bt s k ≤ 57)) := of_decide_eq_false hp
        have : (bt s k < 48) ∨ (57 < bt s k ∧ bt s k < 97) ∨ (122 < bt s k) := by omega
        clear hp
        rcases this with p1 | ⟨p1, p2⟩ | p1
        all_goals
          go_wp2
          all_goals
            rw [E1.out]
            go_ret
            exact ⟨rfl, rfl⟩
    · obtain rfl : k = s.size := by omega
      have E0 : Hid (txB s = decide (1 ≤ s.size ∧ s.size ≤ 16)) := by
        show _ = _
        have := HA.out
        rw [List.take_of_length_le (by rw [bs_len]; omega)] at this
        rw [txB, this, Bool.and_true]
      by_cases h1 : 1 ≤ s.size
      · by_cases h2 : s.size ≤ 16
        · have c1 : (1 : Int) ≤ (s.size : Int) := by omega
          have c2 : (s.size : Int) ≤ 16 := by omega
          have E1 : Hid (txB s = true) := by show _ = _; rw [E0.out]; exact decide_eq_true ⟨h1, h2⟩
          go_wp2
          rw [E1.out]
          go_ret
          exact ⟨rfl, rfl⟩
        · have c1 : (1 : Int) ≤ (s.size : Int) := by omega
          have c2 : ¬ (s.size : Int) ≤ 16 := by omega
          have E1 : Hid (txB s = false) := by show _ = _; rw [E0.out]; exact decide_eq_false (fun h => h2 h.2)
          go_wp2
          rw [E1.out]
          go_ret
          exact ⟨rfl, rfl⟩
      · have c1 : ¬ (1 : Int) ≤ (s.size : Int) := by omega
        have E1 : Hid (txB s = false) := by show _ = _; rw [E0.out]; exact decide_eq_false (fun h => h1 h.1)
        go_wp2
        rw [E1.out]
        go_ret
        exact ⟨rfl, rfl⟩

set_option maxHeartbeats 1600000 in
theorem value32 (v : Value) (q : List Pr) (n : ByteArray) (w : World) (h2 : Ps w v q) (hz : q.length ≤ 1000000000) :
    Calls Tryz.prog 75 #[v, .string n] w fun e w' => e = .returned (.tuple #[.string (gtS q n), .bool (gtB q n)]) ∧ Below w.heap.size w w' := by
  obtain ⟨A2, c2, rfl, _, _, hc⟩ := h2
  have HC := Lib.hid hc
  clear hc
  go_enter Tryz.func75, Tryz.ntmps75
  go_wp2_with fail
  go_loopw [10] (fun i wr => ∃ (k : Nat), k ≤ q.length ∧ i = .int .i64 k ∧ (q.take k).all (fun x => decide (¬ x.1 = n)) = true ∧ Below w.heap.size w wr) (fun i _ => q.length - (intOf i).toNat)
  case atStart => exact ⟨0, Nat.zero_le _, rfl, by simp, Below.refl _ _⟩
  case round =>
    obtain ⟨k, hk, rfl, hall, hB6⟩ := hrel
    have HA := Lib.hid hall
    have H6 := Lib.hid hB6
    clear hall hB6
    by_cases hlt : k < q.length
    · obtain ⟨b, o, rfl, hcell, hcelb⟩ := HC.out k hlt
      have g1 : wr.cell? ⟨b, o + k * 2, none⟩ = some (.string (q.getD k default).1) := by
        rw [H6.out.cell (World.block_lt_of_cell? _ _ hcell)]; exact hcell
      have g2 : wr.cell? ⟨b, o + k * 2 + 1, none⟩ = some (.string (q.getD k default).2) := by
        rw [H6.out.cell (World.block_lt_of_cell? _ _ hcelb)]; exact hcelb
      have c0 : (k : Int) < (q.length : Int) := by omega
      have HL := Lib.hid (all_next (fun x : Pr => decide (¬ x.1 = n)) q k hlt)
      have HQ := Lib.hid (gt_at q n k hlt HA.out)
      clear hcell hcelb
      generalize q.getD k default = x at *
      obtain ⟨x, y⟩ := x
      simp only at g1 g2
      have hsz6 := H6.out.size
      by_cases hx : x = n
      · have q1 := str_beq x n hx
        obtain ⟨e1, e2⟩ := HQ.out hx
        have E1 := Lib.hid e1
        have E2 := Lib.hid e2
        clear e1 e2 hx
        go_wp2
        rw [E1.out, E2.out]
        go_ret2
        exact ⟨rfl, H6.out.alloc (by omega) _⟩
      · have q1 := str_bne x n hx
        have HX := Lib.hid hx
        clear hx
        go_wp2_with fail
        go_roundw
        case rel => exact ⟨k + 1, by omega, by go_num, by rw [HL.out, HA.out, Bool.true_and]; exact decide_eq_true HX.out, H6.out.alloc (by omega) _⟩
        case measure => simp [intOf]; omega
    · obtain rfl : k = q.length := by omega
      obtain ⟨e1, e2⟩ := gt_none q n (by simpa using HA.out)
      have E1 := Lib.hid e1
      have E2 := Lib.hid e2
      clear e1 e2
      go_wp2
      rw [E1.out, E2.out]
      go_ret2
      exact ⟨rfl, H6.out⟩

/-! a set of texts -/
theorem law9 : Keyed Tryz.prog 9 := string_keyed Tryz.underlying9
theorem zero4 (w : World) : (zeroValue 4).run Tryz.prog w = .ok (.bool false) w := by kernel_rfl
theorem plainElem_bool_inv {H : Type} {P : Program} {e : TypeId} (he : P.underlying e = some .bool) {v : Value} {z : DataW H × List MemPlace} (h : plainElem P e v = some z) : ∃ x, v = .bool x ∧ z = (.lit (.bool x), []) := by
  unfold plainElem at h
  rw [he] at h
  cases v <;> simp at h
  exact ⟨_, rfl, h.symm⟩
def inB (N : List ByteArray) (s : ByteArray) : Bool := N.any (fun t => decide (t = s))
/-- block b is a map of texts to true: those of N -/
def SetM (b n : Nat) (N : List ByteArray) (w : World) : Prop :=
  ∃ D : DataW Unit, w.ownsMap Tryz.prog 9 (plainElem Tryz.prog 4) b n D ∧ (∃ es, D = .map es) ∧ ∀ s : ByteArray, s.size ≤ maxLen → D.atKey (.string s.data.toList) (.lit (.bool false)) = .lit (.bool (inB N s))
theorem setM_new (w : World) : SetM w.heap.size 0 [] (w.alloc (.map #[] 0)) :=
  ⟨.map [], World.ownsMap_made _ _ _ _, ⟨_, rfl⟩, fun _ _ => rfl⟩
theorem SetM.alloc {b n : Nat} {N : List ByteArray} {w : World} (h : SetM b n N w) (o : Obj) : SetM b n N (w.alloc o) := by
  obtain ⟨D, h1, h2⟩ := h
  exact ⟨D, h1.alloc o, h2⟩
theorem SetM.lt {b n : Nat} {N : List ByteArray} {w : World} (h : SetM b n N w) : b < w.heap.size := by
  obtain ⟨D, h1, h2⟩ := h
  exact h1.lt
set_option maxRecDepth 100000 in
theorem wpList_setLook {ops : Array Oper} {rest : List Oper} {o : Oper} {a : Act} {Q : Exit → Act → World → Prop} (w : World) (hg : o.guard = none) (m x : Operand) (hop : o.op = Op.lookup 138 m x false)
    (b n : Nat) (N : List ByteArray) (hm : a.eval m = .map (some b)) (h : SetM b n N w) (s : ByteArray) (hx : a.eval x = .string s) (hs : s.size ≤ maxLen)
    (hK : wpList Tryz.prog ops Q rest (a.put o.dst (.bool (inB N s))) w) : wpList Tryz.prog ops Q (o :: rest) a w := by
  refine wpList_plain hg fun K' hK' => ?_
  obtain ⟨D, h1, _, h3⟩ := h
  obtain ⟨v, ps, hrun, hv⟩ := h1.lookup law9 Tryz.underlying138 (zero4 w) (plainElem_bool Tryz.underlying4 false) (WideMaps.keyOf_string_mk Tryz.underlying9 hs)
  obtain ⟨c, rfl, hc⟩ := plainElem_bool_inv Tryz.underlying4 hv
  rw [h3 s hs] at hc
  have hc : inB N s = c := by simp at hc; exact hc.1
  subst hc
  unfold Oper.wp
  simp [execOp, hop, hm, hx, hrun, Result.andThen]
  exact hK' _ _ hK
set_option maxRecDepth 100000 in
theorem wpList_setPut {ops : Array Oper} {rest : List Oper} {o : Oper} {a : Act} {Q : Exit → Act → World → Prop} (w : World) (hg : o.guard = none) (m x v : Operand) (hop : o.op = Op.mapUpdate 138 m x v)
    (b n : Nat) (N : List ByteArray) (hm : a.eval m = .map (some b)) (h : SetM b n N w) (s : ByteArray) (hx : a.eval x = .string s) (hs : s.size ≤ maxLen) (hv : a.eval v = .bool true) (hn : n < maxLen)
    (hK : ∀ w', SetM b (n + 1) (s :: N) w' → w.grownBy w' (some b) → wpList Tryz.prog ops Q rest (a.put o.dst undef) w') : wpList Tryz.prog ops Q (o :: rest) a w := by
  obtain ⟨D, h1, h2, h3⟩ := h
  refine wpList_mapUpdate_own w hg m x v 138 hop 9 4 law9 Tryz.underlying138 _ b n D hm h1 hn (.string s) (.bool true) _ hx hv (WideMaps.keyOf_string_mk Tryz.underlying9 hs) _ [] (plainElem_bool Tryz.underlying4 true) ?_
  intro w' h4 h5
  refine hK w' ⟨_, h4, ?_, fun t ht => ?_⟩ h5
  · obtain ⟨es, rfl⟩ := h2
    exact ⟨_, rfl⟩
  · by_cases e : t = s
    · subst e
      rw [atKey_put_same h2 (by trivial)]
      simp [inB]
    · rw [atKey_put_other (by intro he; apply e; cases t; cases s; simp at he; simp_all), h3 t ht]
      have e' : ¬ s = t := fun h => e h.symm
      simp [inB, e']
end Go.Proofs.YthigandmemifoaaGreatDoor

namespace Go.Proofs.YthigandmemifoaaGreatDoor
open Go.RowKit Go.PlainAid Go.Maps

theorem rp_cases (l : List Sg) (k : Nat) (h : k < l.length) (s1 : Int) (s2 : ByteArray) (hg : l.getD k default = (s1, s2)) :
    ((s1 < 0 ∨ 3 < s1) ∧ okB l k = false) ∨ (0 ≤ s1 ∧ s1 ≤ 3 ∧ txB s2 = false ∧ okB l k = false) ∨ (txB s2 = true ∧ (s1 = 2 ∨ s1 = 3) ∧ k + 1 < l.length ∧ okB l k = false) ∨ (txB s2 = true ∧ s1 = 0 ∧ okB l k = true)
    ∨ (txB s2 = true ∧ (s1 = 1 ∨ ((s1 = 2 ∨ s1 = 3) ∧ k + 1 = l.length)) ∧ okB l k = !((l.take k).any (fun o => decide (o.1 ≠ 0 ∧ o.2 = s2)))) := by
  have e0 : okB l k = (stB s1 (decide (k + 1 = l.length)) && (txB s2 && !twB (s1, s2) (l.take k))) := by rw [okB, hg]
  by_cases c1 : s1 < 0 ∨ 3 < s1
  · refine Or.inl ⟨c1, ?_⟩
    rw [e0, stB, if_neg (by omega), if_neg (by omega)]
    rfl
  · by_cases c2 : txB s2 = true
    · have hs : s1 = 0 ∨ s1 = 1 ∨ s1 = 2 ∨ s1 = 3 := by omega
      have ht : ∀ x : Int, x ≠ 0 → twB (x, s2) (l.take k) = (l.take k).any (fun o => decide (o.1 ≠ 0 ∧ o.2 = s2)) := by
        intro x hx
        rw [twB, if_neg hx]
        rfl
      rcases hs with rfl | rfl | rfl | rfl
      · refine Or.inr (Or.inr (Or.inr (Or.inl ⟨c2, rfl, ?_⟩)))
        rw [e0, c2]
        rfl
      · refine Or.inr (Or.inr (Or.inr (Or.inr ⟨c2, Or.inl rfl, ?_⟩)))
        rw [e0, c2, ht 1 (by decide)]
        simp [stB]
      · by_cases c3 : k + 1 = l.length
        · refine Or.inr (Or.inr (Or.inr (Or.inr ⟨c2, Or.inr ⟨Or.inl rfl, c3⟩, ?_⟩)))
          rw [e0, c2, ht 2 (by decide), decide_eq_true c3]
          simp [stB]
        · refine Or.inr (Or.inr (Or.inl ⟨c2, Or.inl rfl, by omega, ?_⟩))
          rw [e0, decide_eq_false c3]
          simp [stB]
      · by_cases c3 : k + 1 = l.length
        · refine Or.inr (Or.inr (Or.inr (Or.inr ⟨c2, Or.inr ⟨Or.inr rfl, c3⟩, ?_⟩)))
          rw [e0, c2, ht 3 (by decide), decide_eq_true c3]
          simp [stB]
        · refine Or.inr (Or.inr (Or.inl ⟨c2, Or.inr rfl, by omega, ?_⟩))
          rw [e0, decide_eq_false c3]
          simp [stB]
    · have c2 : txB s2 = false := by simpa using c2
      refine Or.inr (Or.inl ⟨by omega, by omega, c2, ?_⟩)
      rw [e0, c2]
      simp

theorem tx_le {s : ByteArray} (h : txB s = true) : s.size ≤ 16 := by
  rw [txB, Bool.and_eq_true] at h
  exact (of_decide_eq_true h.1).2
def NmB (l : List Sg) (k : Nat) (N : List ByteArray) : Prop := ∀ s, inB N s = (l.take k).any (fun o => decide (o.1 ≠ 0 ∧ o.2 = s))
theorem nm_next {l : List Sg} {k : Nat} {N : List ByteArray} (h : NmB l k N) (hk : k < l.length) {s1 : Int} {s2 : ByteArray} (hg : l.getD k default = (s1, s2)) : (s1 = 0 → NmB l (k + 1) N) ∧ (s1 ≠ 0 → NmB l (k + 1) (s2 :: N)) := by
  have e : l.take (k + 1) = l.take k ++ [(s1, s2)] := by
    rw [List.take_add_one]
    rw [← hg]
    simp only [List.getD, List.getElem?_eq_getElem hk, Option.toList_some, Option.getD_some]
  constructor
  · intro h0 s
    rw [e, List.any_append, ← h s, h0]
    simp
  · intro h0 s
    rw [e, List.any_append, ← h s]
    simp only [inB, List.any_cons, List.any_nil, Bool.or_false, ne_eq, h0, not_false_eq_true, true_and]
    rw [Bool.or_comm]

set_option maxRecDepth 100000 in
set_option maxHeartbeats 3200000 in
theorem rightPat17 (v : Value) (l : List Sg) (w : World) (h : Gs w v l) (hs : ∀ g ∈ l, g.2.size ≤ 9223372036854775807) :
    Calls Tryz.prog 72 #[v] w fun e w' => e = .returned (.bool (rgB l)) ∧ Below w.heap.size w w' := by
  obtain ⟨A, cap, rfl, hcap, _, hc⟩ := h
  have HC := Lib.hid hc
  have HS := Lib.hid hs
  clear hc hs
  by_cases h8 : l.length ≤ 8
  · have d1 : ¬ (8 : Int) < (l.length : Int) := by omega
    have hmm := @run_makeMap Tryz.prog
    go_enter Tryz.func72, Tryz.ntmps72
    go_wp2_with fail
    go_loopw [12] (fun i wr => ∃ (k : Nat) (N : List ByteArray), k ≤ l.length ∧ i = .int .i64 k ∧ (∀ j, j < k → okB l j = true) ∧ NmB l k N ∧ SetM w.heap.size k N wr ∧ Below w.heap.size w wr) (fun i _ => l.length - (intOf i).toNat)
    case atStart => exact ⟨0, [], Nat.zero_le _, rfl, by simp, fun s => rfl, setM_new _, (Below.refl _ _).alloc (Nat.le_refl _) _⟩
    case round =>
      obtain ⟨k, N, hk, rfl, hall, hnm, hset, hbw⟩ := hrel
      have HA := Lib.hid hall
      have HW := Lib.hid hbw
      have HN := Lib.hid hnm
      have HM := Lib.hid hset
      clear hall hbw hnm hset
      by_cases hlt : k < l.length
      · have d0 : (k : Int) < (l.length : Int) := by omega
        obtain ⟨x, o, rfl, hcell, hcelb⟩ := HC.out k hlt
        have g1 : wr.cell? ⟨x, o + k * 2, none⟩ = some (.int .i64 (l.getD k default).1) := by rw [HW.out.cell (World.block_lt_of_cell? _ _ hcell)]; exact hcell
        have g3 : wr.cell? ⟨x, o + k * 2 + 1, none⟩ = some (.string (l.getD k default).2) := by rw [HW.out.cell (World.block_lt_of_cell? _ _ hcelb)]; exact hcelb
        have HQ := Lib.hid (@rg_not l k hlt)
        have HZ := Lib.hid (HS.out _ (getD_mem l k hlt))
        obtain ⟨⟨s1, s2⟩, hg⟩ : ∃ g, l.getD k default = g := ⟨_, rfl⟩
        have HX := Lib.hid (rp_cases l k hlt s1 s2 hg)
        have HE := Lib.hid (nm_next HN.out hlt hg)
        have HIN := Lib.hid (HN.out s2)
        rw [hg] at g1 g3 HZ
        simp only at g1 g3
        clear hcell hcelb hg
        have hsz := HW.out.size
        have HY := Lib.hid (HW.out.alloc HW.out.size (.cells #[.int .i64 s1, .string s2] 28 (0, 0)))
        have HM9 := Lib.hid (HM.out.alloc (.cells #[.int .i64 s1, .string s2] 28 (0, 0)))
        have d5 : IntKind.i64.wrap ((k : Int) + 1) = (k : Int) + 1 := IntWalk.i64_in _ (by omega)
        rcases HX.out with ⟨c1, hok⟩ | ⟨c1, c2, htx, hok⟩ | ⟨htx, c1, c2, hok⟩ | ⟨htx, rfl, hok⟩ | ⟨htx, c1, hok⟩
        · have E1 := Lib.hid (HQ.out hok)
          clear hok
          rcases c1 with c1 | c1
          all_goals
            go_wp2
            all_goals
              rw [E1.out]
              go_ret
              exact ⟨rfl, HY.out⟩
        · have E1 := Lib.hid (HQ.out hok)
          have HT := Lib.hid htx
          clear hok htx
          go_wp2_with (first | (go_at_call 89; refine (word39 _ _ HZ.out).mono ?_; rintro e w' ⟨rfl, hww⟩; subst hww; rw [HT.out]))
          rw [E1.out]
          go_ret
          exact ⟨rfl, HY.out⟩
        · have E1 := Lib.hid (HQ.out hok)
          have HT := Lib.hid htx
          have c3 : (k : Int) + 1 < (l.length : Int) := by omega
          clear hok htx
          rcases c1 with rfl | rfl
          all_goals
            go_wp2_with (first | (go_at_call 89; refine (word39 _ _ HZ.out).mono ?_; rintro e w' ⟨rfl, hww⟩; subst hww; rw [HT.out]))
            rw [E1.out]
            go_ret
            exact ⟨rfl, HY.out⟩
        · have HT := Lib.hid htx
          have HOK := Lib.hid hok
          clear hok htx
          go_wp2_with (first | (go_at_call 89; refine (word39 _ _ HZ.out).mono ?_; rintro e w' ⟨rfl, hww⟩; subst hww; rw [HT.out]))
          go_roundw
          case rel =>
            refine ⟨k + 1, N, by omega, by go_num, ?_, HE.out.1 (by first | rfl | trivial), ?_, HY.out⟩
            · intro j hj
              by_cases e : j = k
              · subst e; exact HOK.out
              · exact HA.out j (by omega)
            · obtain ⟨D, m1, m2⟩ := HM9.out
              exact ⟨D, m1.mono (by omega), m2⟩
          case measure => simp [intOf]; omega
        · have HT := Lib.hid htx
          have h16 := tx_le htx
          have HL : Hid (s2.size ≤ maxLen) := by show _ ≤ _; unfold maxLen; omega
          have c4 : Hid (¬ (k : Int) + 1 < (l.length : Int) ∨ s1 = 1) := by show _ ∨ _; omega
          have c5 : s1 = 1 ∨ s1 = 2 ∨ s1 = 3 := by omega
          have HNL : Hid (k < maxLen) := by show _ < _; unfold maxLen; omega
          rw [← HIN.out] at hok
          clear htx c1
          rcases hin : inB N s2 with _ | _
          · rw [hin] at hok
            have HI := Lib.hid hin
            have HOK : Hid (okB l k = true) := hok
            clear hok hin
            rcases c5 with rfl | rfl | rfl
            · go_wp2_with (first | (go_at_call 89; refine (word39 _ _ HZ.out).mono ?_; rintro e w' ⟨rfl, hww⟩; subst hww; rw [HT.out]) | (at_lookup; refine wpList_setLook _ rfl (.tmp 46) (.tmp 48) rfl w.heap.size k N rfl HM9.out s2 rfl HL.out ?_; rw [HI.out]) | (at_mapUpdate; refine wpList_setPut _ rfl (.tmp 50) (.tmp 52) _ rfl w.heap.size k N rfl HM9.out s2 rfl HL.out rfl HNL.out ?_; intro w1 hs1 hg1; have HS1 := Lib.hid hs1; have HG1 := Lib.hid (HY.out.grown hg1 HY.out.size (fun j hj => by cases hj; exact Nat.le_refl _)); clear hs1 hg1))
              go_roundw
              case rel =>
                refine ⟨k + 1, s2 :: N, by omega, by go_num, ?_, HE.out.2 (by decide), HS1.out, HG1.out⟩
                intro j hj
                by_cases e : j = k
                · subst e; exact HOK.out
                · exact HA.out j (by omega)
              case measure => simp [intOf]; omega
            · have c6 : ¬ (k : Int) + 1 < (l.length : Int) := c4.out.resolve_right (by decide)
              go_wp2_with (first | (go_at_call 89; refine (word39 _ _ HZ.out).mono ?_; rintro e w' ⟨rfl, hww⟩; subst hww; rw [HT.out]) | (at_lookup; refine wpList_setLook _ rfl (.tmp 46) (.tmp 48) rfl w.heap.size k N rfl HM9.out s2 rfl HL.out ?_; rw [HI.out]) | (at_mapUpdate; refine wpList_setPut _ rfl (.tmp 50) (.tmp 52) _ rfl w.heap.size k N rfl HM9.out s2 rfl HL.out rfl HNL.out ?_; intro w1 hs1 hg1; have HS1 := Lib.hid hs1; have HG1 := Lib.hid (HY.out.grown hg1 HY.out.size (fun j hj => by cases hj; exact Nat.le_refl _)); clear hs1 hg1))
              go_roundw
              case rel =>
                refine ⟨k + 1, s2 :: N, by omega, by go_num, ?_, HE.out.2 (by decide), HS1.out, HG1.out⟩
                intro j hj
                by_cases e : j = k
                · subst e; exact HOK.out
                · exact HA.out j (by omega)
              case measure => simp [intOf]; omega
            · have c6 : ¬ (k : Int) + 1 < (l.length : Int) := c4.out.resolve_right (by decide)
              go_wp2_with (first | (go_at_call 89; refine (word39 _ _ HZ.out).mono ?_; rintro e w' ⟨rfl, hww⟩; subst hww; rw [HT.out]) | (at_lookup; refine wpList_setLook _ rfl (.tmp 46) (.tmp 48) rfl w.heap.size k N rfl HM9.out s2 rfl HL.out ?_; rw [HI.out]) | (at_mapUpdate; refine wpList_setPut _ rfl (.tmp 50) (.tmp 52) _ rfl w.heap.size k N rfl HM9.out s2 rfl HL.out rfl HNL.out ?_; intro w1 hs1 hg1; have HS1 := Lib.hid hs1; have HG1 := Lib.hid (HY.out.grown hg1 HY.out.size (fun j hj => by cases hj; exact Nat.le_refl _)); clear hs1 hg1))
              go_roundw
              case rel =>
                refine ⟨k + 1, s2 :: N, by omega, by go_num, ?_, HE.out.2 (by decide), HS1.out, HG1.out⟩
                intro j hj
                by_cases e : j = k
                · subst e; exact HOK.out
                · exact HA.out j (by omega)
              case measure => simp [intOf]; omega
          · rw [hin] at hok
            have HI := Lib.hid hin
            have E1 := Lib.hid (HQ.out hok)
            clear hok hin
            rcases c5 with rfl | rfl | rfl
            · go_wp2_with (first | (go_at_call 89; refine (word39 _ _ HZ.out).mono ?_; rintro e w' ⟨rfl, hww⟩; subst hww; rw [HT.out]) | (at_lookup; refine wpList_setLook _ rfl (.tmp 46) (.tmp 48) rfl w.heap.size k N rfl HM9.out s2 rfl HL.out ?_; rw [HI.out]))
              rw [E1.out]
              go_ret
              exact ⟨rfl, HY.out⟩
            · have c6 : ¬ (k : Int) + 1 < (l.length : Int) := c4.out.resolve_right (by decide)
              go_wp2_with (first | (go_at_call 89; refine (word39 _ _ HZ.out).mono ?_; rintro e w' ⟨rfl, hww⟩; subst hww; rw [HT.out]) | (at_lookup; refine wpList_setLook _ rfl (.tmp 46) (.tmp 48) rfl w.heap.size k N rfl HM9.out s2 rfl HL.out ?_; rw [HI.out]))
              rw [E1.out]
              go_ret
              exact ⟨rfl, HY.out⟩
            · have c6 : ¬ (k : Int) + 1 < (l.length : Int) := c4.out.resolve_right (by decide)
              go_wp2_with (first | (go_at_call 89; refine (word39 _ _ HZ.out).mono ?_; rintro e w' ⟨rfl, hww⟩; subst hww; rw [HT.out]) | (at_lookup; refine wpList_setLook _ rfl (.tmp 46) (.tmp 48) rfl w.heap.size k N rfl HM9.out s2 rfl HL.out ?_; rw [HI.out]))
              rw [E1.out]
              go_ret
              exact ⟨rfl, HY.out⟩
      · obtain rfl : k = l.length := by omega
        have E1 := Lib.hid (rg_yes h8 HA.out)
        go_wp2
        rw [E1.out]
        go_ret
        exact ⟨rfl, HW.out⟩
  · have d1 : (8 : Int) < (l.length : Int) := by omega
    have e0 : rgB l = false := by rw [rgB, decide_eq_false h8]; rfl
    rw [e0]
    go_enter Tryz.func72, Tryz.ntmps72
    go_wp2
    go_ret
    exact ⟨rfl, Below.refl _ _⟩
end Go.Proofs.YthigandmemifoaaGreatDoor
