/-
  The reference's RightPattern, Match, Compare and Find.
-/
import Derived.Test.YtgiepgbjkkhniaaRgt
import Derived.Test.YtgiepgbjkkhniaaSame
import Derived.Maps.OwnOps
import Derived.Maps.Views
import Derived.Test.YtgiepgbjkkhniaaMtc
import Derived.Test.YtgiepgbjkkhniaaRef
import Derived.Test.YtgiepgbjkkhniaaKeepURL
import Derived.Test.YtgiepgbjkkhniaaCmp
import Derived.Test.YtgiepgbjkkhniaaTok
namespace Go.Proofs.Ytgiepgbjkkhniaa
open Go.RowKit Go.PlainAid Go.Maps

set_option maxHeartbeats 1600000 in
theorem word39 (s : ByteArray) (w : World) (hs : s.size ≤ 9223372036854775807) : Calls Try.prog 29 #[.string s] w fun e w' => e = .returned (.bool (txB s)) ∧ w' = w := by
  have gb := get_bt s
  go_enter Try.func29, Try.ntmps29
  go_wp2_with fail
  go_loopw [3] (fun i wr => ∃ k : Nat, k ≤ s.size ∧ i = .int .i64 k ∧ ((bs s).take k).all lc = true ∧ wr = w) (fun i _ => s.size - (intOf i).toNat)
  case atStart => exact ⟨0, Nat.zero_le _, rfl, by simp, rfl⟩
  case round =>
    obtain ⟨k, hk, rfl, hall, rfl⟩ := hrel
    have HA := Lib.hid hall
    clear hall
    by_cases hlt : k < s.size
    · have c0 : (k : Int) < (s.size : Int) := by omega
      have HL := Lib.hid (lc_next s k hlt)
      have HN := Lib.hid (lc_not s k hlt)
      by_cases hp : lc (bt s k) = true
      · have HP := Lib.hid hp
        have hp : (97 ≤ bt s k ∧ bt s k ≤ 122) ∨ (48 ≤ bt s k ∧ bt s k ≤ 57) := of_decide_eq_true hp
        rcases hp with ⟨p1, p2⟩ | ⟨p1, p2⟩
        all_goals
          go_wp2_with fail
          all_goals
            go_roundw
            case rel => exact ⟨k + 1, by omega, by go_num, by rw [HL.out, HA.out, HP.out]; rfl, trivial⟩
            case measure => simp [intOf]; omega
      · have hp : lc (bt s k) = false := by simpa using hp
        have E1 : Hid (txB s = false) := by show _ = _; rw [txB, HN.out hp, Bool.and_false]
        have hp : ¬ ((97 ≤ bt s k ∧ bt s k ≤ 122) ∨ (48 ≤ bt s k ∧ bt s k ≤ 57)) := of_decide_eq_false hp
        have : (bt s k < 48) ∨ (57 < bt s k ∧ bt s k < 97) ∨ (122 < bt s k) := by omega
        clear hp
        rcases this with p1 | ⟨p1, p2⟩ | p1
        all_goals
          go_wp2
          all_goals
            rw [E1.out]
            go_ret
            exact ⟨rfl, rfl⟩
    · obtain rfl : k = s.size := by omega
      have E0 : Hid (txB s = decide (1 ≤ s.size ∧ s.size ≤ 16)) := by
        show _ = _
        have := HA.out
        rw [List.take_of_length_le (by rw [bs_len]; omega)] at this
        rw [txB, this, Bool.and_true]
      by_cases h1 : 1 ≤ s.size
      · by_cases h2 : s.size ≤ 16
        · have c1 : (1 : Int) ≤ (s.size : Int) := by omega
          have c2 : (s.size : Int) ≤ 16 := by omega
          have E1 : Hid (txB s = true) := by show _ = _; rw [E0.out]; exact decide_eq_true ⟨h1, h2⟩
          go_wp2
          rw [E1.out]
          go_ret
          exact ⟨rfl, rfl⟩
        · have c1 : (1 : Int) ≤ (s.size : Int) := by omega
          have c2 : ¬ (s.size : Int) ≤ 16 := by omega
          have E1 : Hid (txB s = false) := by show _ = _; rw [E0.out]; exact decide_eq_false (fun h => h2 h.2)
          go_wp2
          rw [E1.out]
          go_ret
          exact ⟨rfl, rfl⟩
      · have c1 : ¬ (1 : Int) ≤ (s.size : Int) := by omega
        have E1 : Hid (txB s = false) := by show _ = _; rw [E0.out]; exact decide_eq_false (fun h => h1 h.1)
        go_wp2
        rw [E1.out]
        go_ret
        exact ⟨rfl, rfl⟩

theorem law9 : Keyed Try.prog 9 := string_keyed Try.underlying9
theorem zero4 (w : World) : (zeroValue 4).run Try.prog w = .ok (.bool false) w := by kernel_rfl
theorem plainElem_bool_inv {H : Type} {P : Program} {e : TypeId} (he : P.underlying e = some .bool) {v : Value} {z : DataW H × List MemPlace} (h : plainElem P e v = some z) : ∃ x, v = .bool x ∧ z = (.lit (.bool x), []) := by
  unfold plainElem at h
  rw [he] at h
  cases v <;> simp at h
  exact ⟨_, rfl, h.symm⟩
def inB (N : List ByteArray) (s : ByteArray) : Bool := N.any (fun t => decide (t = s))
/-- block b is a map of texts to true: those of N -/
def SetM (b n : Nat) (N : List ByteArray) (w : World) : Prop :=
  ∃ D : DataW Unit, w.ownsMap Try.prog 9 (plainElem Try.prog 4) b n D ∧ (∃ es, D = .map es) ∧ ∀ s : ByteArray, s.size ≤ maxLen → D.atKey (.string s.data.toList) (.lit (.bool false)) = .lit (.bool (inB N s))
theorem setM_new (w : World) : SetM w.heap.size 0 [] (w.alloc (.map #[] 0)) :=
  ⟨.map [], World.ownsMap_made _ _ _ _, ⟨_, rfl⟩, fun _ _ => rfl⟩
theorem SetM.alloc {b n : Nat} {N : List ByteArray} {w : World} (h : SetM b n N w) (o : Obj) : SetM b n N (w.alloc o) := by
  obtain ⟨D, h1, h2⟩ := h
  exact ⟨D, h1.alloc o, h2⟩
theorem SetM.lt {b n : Nat} {N : List ByteArray} {w : World} (h : SetM b n N w) : b < w.heap.size := by
  obtain ⟨D, h1, h2⟩ := h
  exact h1.lt
set_option maxRecDepth 100000 in
theorem wpList_setLook {ops : Array Oper} {rest : List Oper} {o : Oper} {a : Act} {Q : Exit → Act → World → Prop} (w : World) (hg : o.guard = none) (m x : Operand) (hop : o.op = Op.lookup 74 m x false)
    (b n : Nat) (N : List ByteArray) (hm : a.eval m = .map (some b)) (h : SetM b n N w) (s : ByteArray) (hx : a.eval x = .string s) (hs : s.size ≤ maxLen)
    (hK : wpList Try.prog ops Q rest (a.put o.dst (.bool (inB N s))) w) : wpList Try.prog ops Q (o :: rest) a w := by
  refine wpList_plain hg fun K' hK' => ?_
  obtain ⟨D, h1, _, h3⟩ := h
  obtain ⟨v, ps, hrun, hv⟩ := h1.lookup law9 Try.underlying74 (zero4 w) (plainElem_bool Try.underlying4 false) (WideMaps.keyOf_string_mk Try.underlying9 hs)
  obtain ⟨c, rfl, hc⟩ := plainElem_bool_inv Try.underlying4 hv
  rw [h3 s hs] at hc
  have hc : inB N s = c := by simp at hc; exact hc.1
  subst hc
  unfold Oper.wp
  simp [execOp, hop, hm, hx, hrun, Result.andThen]
  exact hK' _ _ hK
set_option maxRecDepth 100000 in
theorem wpList_setPut {ops : Array Oper} {rest : List Oper} {o : Oper} {a : Act} {Q : Exit → Act → World → Prop} (w : World) (hg : o.guard = none) (m x v : Operand) (hop : o.op = Op.mapUpdate 74 m x v)
    (b n : Nat) (N : List ByteArray) (hm : a.eval m = .map (some b)) (h : SetM b n N w) (s : ByteArray) (hx : a.eval x = .string s) (hs : s.size ≤ maxLen) (hv : a.eval v = .bool true) (hn : n < maxLen)
    (hK : ∀ w', SetM b (n + 1) (s :: N) w' → w.grownBy w' (some b) → wpList Try.prog ops Q rest (a.put o.dst undef) w') : wpList Try.prog ops Q (o :: rest) a w := by
  obtain ⟨D, h1, h2, h3⟩ := h
  refine wpList_mapUpdate_own w hg m x v 74 hop 9 4 law9 Try.underlying74 _ b n D hm h1 hn (.string s) (.bool true) _ hx hv (WideMaps.keyOf_string_mk Try.underlying9 hs) _ [] (plainElem_bool Try.underlying4 true) ?_
  intro w' h4 h5
  refine hK w' ⟨_, h4, ?_, fun t ht => ?_⟩ h5
  · obtain ⟨es, rfl⟩ := h2
    exact ⟨_, rfl⟩
  · by_cases e : t = s
    · subst e
      rw [atKey_put_same h2 (by trivial)]
      simp [inB]
    · rw [atKey_put_other (by intro he; apply e; cases t; cases s; simp at he; simp_all), h3 t ht]
      have e' : ¬ s = t := fun h => e h.symm
      simp [inB, e']
end Go.Proofs.Ytgiepgbjkkhniaa

namespace Go.Proofs.Ytgiepgbjkkhniaa
open Go.RowKit Go.PlainAid Go.Maps

theorem rp_cases (l : List Sg) (k : Nat) (h : k < l.length) (s1 : Int) (s2 : ByteArray) (hg : l.getD k default = (s1, s2)) :
    ((s1 < 0 ∨ 3 < s1) ∧ okB l k = false) ∨ (0 ≤ s1 ∧ s1 ≤ 3 ∧ txB s2 = false ∧ okB l k = false) ∨ (txB s2 = true ∧ (s1 = 2 ∨ s1 = 3) ∧ k + 1 < l.length ∧ okB l k = false) ∨ (txB s2 = true ∧ s1 = 0 ∧ okB l k = true)
    ∨ (txB s2 = true ∧ (s1 = 1 ∨ ((s1 = 2 ∨ s1 = 3) ∧ k + 1 = l.length)) ∧ okB l k = !((l.take k).any (fun o => decide (o.1 ≠ 0 ∧ o.2 = s2)))) := by
  have e0 : okB l k = (stB s1 (decide (k + 1 = l.length)) && (txB s2 && !twB (s1, s2) (l.take k))) := by rw [okB, hg]
  by_cases c1 : s1 < 0 ∨ 3 < s1
  · refine Or.inl ⟨c1, ?_⟩
    rw [e0, stB, if_neg (by omega), if_neg (by omega)]
    rfl
  · by_cases c2 : txB s2 = true
    · have hs : s1 = 0 ∨ s1 = 1 ∨ s1 = 2 ∨ s1 = 3 := by omega
      have ht : ∀ x : Int, x ≠ 0 → twB (x, s2) (l.take k) = (l.take k).any (fun o => decide (o.1 ≠ 0 ∧ o.2 = s2)) := by
        intro x hx
        rw [twB, if_neg hx]
        rfl
      rcases hs with rfl | rfl | rfl | rfl
      · refine Or.inr (Or.inr (Or.inr (Or.inl ⟨c2, rfl, ?_⟩)))
        rw [e0, c2]
        rfl
      · refine Or.inr (Or.inr (Or.inr (Or.inr ⟨c2, Or.inl rfl, ?_⟩)))
        rw [e0, c2, ht 1 (by decide)]
        simp [stB]
      · by_cases c3 : k + 1 = l.length
        · refine Or.inr (Or.inr (Or.inr (Or.inr ⟨c2, Or.inr ⟨Or.inl rfl, c3⟩, ?_⟩)))
          rw [e0, c2, ht 2 (by decide), decide_eq_true c3]
          simp [stB]
        · refine Or.inr (Or.inr (Or.inl ⟨c2, Or.inl rfl, by omega, ?_⟩))
          rw [e0, decide_eq_false c3]
          simp [stB]
      · by_cases c3 : k + 1 = l.length
        · refine Or.inr (Or.inr (Or.inr (Or.inr ⟨c2, Or.inr ⟨Or.inr rfl, c3⟩, ?_⟩)))
          rw [e0, c2, ht 3 (by decide), decide_eq_true c3]
          simp [stB]
        · refine Or.inr (Or.inr (Or.inl ⟨c2, Or.inr rfl, by omega, ?_⟩))
          rw [e0, decide_eq_false c3]
          simp [stB]
    · have c2 : txB s2 = false := by simpa using c2
      refine Or.inr (Or.inl ⟨by omega, by omega, c2, ?_⟩)
      rw [e0, c2]
      simp

theorem tx_le {s : ByteArray} (h : txB s = true) : s.size ≤ 16 := by
  rw [txB, Bool.and_eq_true] at h
  exact (of_decide_eq_true h.1).2
def NmB (l : List Sg) (k : Nat) (N : List ByteArray) : Prop := ∀ s, inB N s = (l.take k).any (fun o => decide (o.1 ≠ 0 ∧ o.2 = s))
theorem nm_next {l : List Sg} {k : Nat} {N : List ByteArray} (h : NmB l k N) (hk : k < l.length) {s1 : Int} {s2 : ByteArray} (hg : l.getD k default = (s1, s2)) : (s1 = 0 → NmB l (k + 1) N) ∧ (s1 ≠ 0 → NmB l (k + 1) (s2 :: N)) := by
  have e : l.take (k + 1) = l.take k ++ [(s1, s2)] := by
    rw [List.take_add_one]
    rw [← hg]
    simp only [List.getD, List.getElem?_eq_getElem hk, Option.toList_some, Option.getD_some]
  constructor
  · intro h0 s
    rw [e, List.any_append, ← h s, h0]
    simp
  · intro h0 s
    rw [e, List.any_append, ← h s]
    simp only [inB, List.any_cons, List.any_nil, Bool.or_false, ne_eq, h0, not_false_eq_true, true_and]
    rw [Bool.or_comm]

set_option maxRecDepth 100000 in
set_option maxHeartbeats 3200000 in
theorem rightPat17 (v : Value) (l : List Sg) (w : World) (h : Gs w v l) (hs : ∀ g ∈ l, g.2.size ≤ 9223372036854775807) :
    Calls Try.prog 15 #[v] w fun e w' => e = .returned (.bool (rgB l)) ∧ Below w.heap.size w w' := by
  obtain ⟨A, cap, rfl, hcap, _, hc⟩ := h
  have HC := Lib.hid hc
  have HS := Lib.hid hs
  clear hc hs
  by_cases h8 : l.length ≤ 8
  · have d1 : ¬ (8 : Int) < (l.length : Int) := by omega
    have hmm := @run_makeMap Try.prog
    go_enter Try.func15, Try.ntmps15
    go_wp2_with fail
    go_loopw [12] (fun i wr => ∃ (k : Nat) (N : List ByteArray), k ≤ l.length ∧ i = .int .i64 k ∧ (∀ j, j < k → okB l j = true) ∧ NmB l k N ∧ SetM w.heap.size k N wr ∧ Below w.heap.size w wr) (fun i _ => l.length - (intOf i).toNat)
    case atStart => exact ⟨0, [], Nat.zero_le _, rfl, by simp, fun s => rfl, setM_new _, (Below.refl _ _).alloc (Nat.le_refl _) _⟩
    case round =>
      obtain ⟨k, N, hk, rfl, hall, hnm, hset, hbw⟩ := hrel
      have HA := Lib.hid hall
      have HW := Lib.hid hbw
      have HN := Lib.hid hnm
      have HM := Lib.hid hset
      clear hall hbw hnm hset
      by_cases hlt : k < l.length
      · have d0 : (k : Int) < (l.length : Int) := by omega
        obtain ⟨x, o, rfl, hcell, hcelb⟩ := HC.out k hlt
        have g1 : wr.cell? ⟨x, o + k * 2, none⟩ = some (.int .i64 (l.getD k default).1) := by rw [HW.out.cell (World.block_lt_of_cell? _ _ hcell)]; exact hcell
        have g3 : wr.cell? ⟨x, o + k * 2 + 1, none⟩ = some (.string (l.getD k default).2) := by rw [HW.out.cell (World.block_lt_of_cell? _ _ hcelb)]; exact hcelb
        have HQ := Lib.hid (@rg_not l k hlt)
        have HZ := Lib.hid (HS.out _ (getD_mem l k hlt))
        obtain ⟨⟨s1, s2⟩, hg⟩ : ∃ g, l.getD k default = g := ⟨_, rfl⟩
        have HX := Lib.hid (rp_cases l k hlt s1 s2 hg)
        have HE := Lib.hid (nm_next HN.out hlt hg)
        have HIN := Lib.hid (HN.out s2)
        rw [hg] at g1 g3 HZ
        simp only at g1 g3
        clear hcell hcelb hg
        have hsz := HW.out.size
        have HY := Lib.hid (HW.out.alloc HW.out.size (.cells #[.int .i64 s1, .string s2] 23 (0, 0)))
        have HM9 := Lib.hid (HM.out.alloc (.cells #[.int .i64 s1, .string s2] 23 (0, 0)))
        have d5 : IntKind.i64.wrap ((k : Int) + 1) = (k : Int) + 1 := IntWalk.i64_in _ (by omega)
        rcases HX.out with ⟨c1, hok⟩ | ⟨c1, c2, htx, hok⟩ | ⟨htx, c1, c2, hok⟩ | ⟨htx, rfl, hok⟩ | ⟨htx, c1, hok⟩
        · have E1 := Lib.hid (HQ.out hok)
          clear hok
          rcases c1 with c1 | c1
          all_goals
            go_wp2
            all_goals
              rw [E1.out]
              go_ret
              exact ⟨rfl, HY.out⟩
        · have E1 := Lib.hid (HQ.out hok)
          have HT := Lib.hid htx
          clear hok htx
          go_wp2_with (first | (go_at_call 29; refine (word39 _ _ HZ.out).mono ?_; rintro e w' ⟨rfl, hww⟩; subst hww; rw [HT.out]))
          rw [E1.out]
          go_ret
          exact ⟨rfl, HY.out⟩
        · have E1 := Lib.hid (HQ.out hok)
          have HT := Lib.hid htx
          have c3 : (k : Int) + 1 < (l.length : Int) := by omega
          clear hok htx
          rcases c1 with rfl | rfl
          all_goals
            go_wp2_with (first | (go_at_call 29; refine (word39 _ _ HZ.out).mono ?_; rintro e w' ⟨rfl, hww⟩; subst hww; rw [HT.out]))
            rw [E1.out]
            go_ret
            exact ⟨rfl, HY.out⟩
        · have HT := Lib.hid htx
          have HOK := Lib.hid hok
          clear hok htx
          go_wp2_with (first | (go_at_call 29; refine (word39 _ _ HZ.out).mono ?_; rintro e w' ⟨rfl, hww⟩; subst hww; rw [HT.out]))
          go_roundw
          case rel =>
            refine ⟨k + 1, N, by omega, by go_num, ?_, HE.out.1 (by first | rfl | trivial), ?_, HY.out⟩
            · intro j hj
              by_cases e : j = k
              · subst e; exact HOK.out
              · exact HA.out j (by omega)
            · obtain ⟨D, m1, m2⟩ := HM9.out
              exact ⟨D, m1.mono (by omega), m2⟩
          case measure => simp [intOf]; omega
        · have HT := Lib.hid htx
          have h16 := tx_le htx
          have HL : Hid (s2.size ≤ maxLen) := by show _ ≤ _; unfold maxLen; omega
          have c4 : Hid (¬ (k : Int) + 1 < (l.length : Int) ∨ s1 = 1) := by show _ ∨ _; omega
          have c5 : s1 = 1 ∨ s1 = 2 ∨ s1 = 3 := by omega
          have HNL : Hid (k < maxLen) := by show _ < _; unfold maxLen; omega
          rw [← HIN.out] at hok
          clear htx c1
          rcases hin : inB N s2 with _ | _
          · rw [hin] at hok
            have HI := Lib.hid hin
            have HOK : Hid (okB l k = true) := hok
            clear hok hin
            rcases c5 with rfl | rfl | rfl
            · go_wp2_with (first | (go_at_call 29; refine (word39 _ _ HZ.out).mono ?_; rintro e w' ⟨rfl, hww⟩; subst hww; rw [HT.out]) | (at_lookup; refine wpList_setLook _ rfl (.tmp 46) (.tmp 48) rfl w.heap.size k N rfl HM9.out s2 rfl HL.out ?_; rw [HI.out]) | (at_mapUpdate; refine wpList_setPut _ rfl (.tmp 50) (.tmp 52) _ rfl w.heap.size k N rfl HM9.out s2 rfl HL.out rfl HNL.out ?_; intro w1 hs1 hg1; have HS1 := Lib.hid hs1; have HG1 := Lib.hid (HY.out.grown hg1 HY.out.size (fun j hj => by cases hj; exact Nat.le_refl _)); clear hs1 hg1))
              go_roundw
              case rel =>
                refine ⟨k + 1, s2 :: N, by omega, by go_num, ?_, HE.out.2 (by decide), HS1.out, HG1.out⟩
                intro j hj
                by_cases e : j = k
                · subst e; exact HOK.out
                · exact HA.out j (by omega)
              case measure => simp [intOf]; omega
            · have c6 : ¬ (k : Int) + 1 < (l.length : Int) := c4.out.resolve_right (by decide)
              go_wp2_with (first | (go_at_call 29; refine (word39 _ _ HZ.out).mono ?_; rintro e w' ⟨rfl, hww⟩; subst hww; rw [HT.out]) | (at_lookup; refine wpList_setLook _ rfl (.tmp 46) (.tmp 48) rfl w.heap.size k N rfl HM9.out s2 rfl HL.out ?_; rw [HI.out]) | (at_mapUpdate; refine wpList_setPut _ rfl (.tmp 50) (.tmp 52) _ rfl w.heap.size k N rfl HM9.out s2 rfl HL.out rfl HNL.out ?_; intro w1 hs1 hg1; have HS1 := Lib.hid hs1; have HG1 := Lib.hid (HY.out.grown hg1 HY.out.size (fun j hj => by cases hj; exact Nat.le_refl _)); clear hs1 hg1))
              go_roundw
              case rel =>
                refine ⟨k + 1, s2 :: N, by omega, by go_num, ?_, HE.out.2 (by decide), HS1.out, HG1.out⟩
                intro j hj
                by_cases e : j = k
                · subst e; exact HOK.out
                · exact HA.out j (by omega)
              case measure => simp [intOf]; omega
            · have c6 : ¬ (k : Int) + 1 < (l.length : Int) := c4.out.resolve_right (by decide)
              go_wp2_with (first | (go_at_call 29; refine (word39 _ _ HZ.out).mono ?_; rintro e w' ⟨rfl, hww⟩; subst hww; rw [HT.out]) | (at_lookup; refine wpList_setLook _ rfl (.tmp 46) (.tmp 48) rfl w.heap.size k N rfl HM9.out s2 rfl HL.out ?_; rw [HI.out]) | (at_mapUpdate; refine wpList_setPut _ rfl (.tmp 50) (.tmp 52) _ rfl w.heap.size k N rfl HM9.out s2 rfl HL.out rfl HNL.out ?_; intro w1 hs1 hg1; have HS1 := Lib.hid hs1; have HG1 := Lib.hid (HY.out.grown hg1 HY.out.size (fun j hj => by cases hj; exact Nat.le_refl _)); clear hs1 hg1))
              go_roundw
              case rel =>
                refine ⟨k + 1, s2 :: N, by omega, by go_num, ?_, HE.out.2 (by decide), HS1.out, HG1.out⟩
                intro j hj
                by_cases e : j = k
                · subst e; exact HOK.out
                · exact HA.out j (by omega)
              case measure => simp [intOf]; omega
          · rw [hin] at hok
            have HI := Lib.hid hin
            have E1 := Lib.hid (HQ.out hok)
            clear hok hin
            rcases c5 with rfl | rfl | rfl
            · go_wp2_with (first | (go_at_call 29; refine (word39 _ _ HZ.out).mono ?_; rintro e w' ⟨rfl, hww⟩; subst hww; rw [HT.out]) | (at_lookup; refine wpList_setLook _ rfl (.tmp 46) (.tmp 48) rfl w.heap.size k N rfl HM9.out s2 rfl HL.out ?_; rw [HI.out]))
              rw [E1.out]
              go_ret
              exact ⟨rfl, HY.out⟩
            · have c6 : ¬ (k : Int) + 1 < (l.length : Int) := c4.out.resolve_right (by decide)
              go_wp2_with (first | (go_at_call 29; refine (word39 _ _ HZ.out).mono ?_; rintro e w' ⟨rfl, hww⟩; subst hww; rw [HT.out]) | (at_lookup; refine wpList_setLook _ rfl (.tmp 46) (.tmp 48) rfl w.heap.size k N rfl HM9.out s2 rfl HL.out ?_; rw [HI.out]))
              rw [E1.out]
              go_ret
              exact ⟨rfl, HY.out⟩
            · have c6 : ¬ (k : Int) + 1 < (l.length : Int) := c4.out.resolve_right (by decide)
              go_wp2_with (first | (go_at_call 29; refine (word39 _ _ HZ.out).mono ?_; rintro e w' ⟨rfl, hww⟩; subst hww; rw [HT.out]) | (at_lookup; refine wpList_setLook _ rfl (.tmp 46) (.tmp 48) rfl w.heap.size k N rfl HM9.out s2 rfl HL.out ?_; rw [HI.out]))
              rw [E1.out]
              go_ret
              exact ⟨rfl, HY.out⟩
      · obtain rfl : k = l.length := by omega
        have E1 := Lib.hid (rg_yes h8 HA.out)
        go_wp2
        rw [E1.out]
        go_ret
        exact ⟨rfl, HW.out⟩
  · have d1 : (8 : Int) < (l.length : Int) := by omega
    have e0 : rgB l = false := by rw [rgB, decide_eq_false h8]; rfl
    rw [e0]
    go_enter Try.func15, Try.ntmps15
    go_wp2
    go_ret
    exact ⟨rfl, Below.refl _ _⟩
end Go.Proofs.Ytgiepgbjkkhniaa

namespace Go.Proofs.Ytgiepgbjkkhniaa
open Go.PlainAid

theorem ok_parts {l : List Sg} (h : rgB l = true) {g : Sg} (hg : g ∈ l) : txB g.2 = true ∧ (g.1 = 0 ∨ g.1 = 1 ∨ g.1 = 2 ∨ g.1 = 3) := by
  obtain ⟨k, hk, rfl⟩ := List.getElem_of_mem hg
  have := rg_ok h k hk
  have e : l.getD k default = l[k] := by simp [List.getD, hk]
  rw [okB, e, Bool.and_eq_true, Bool.and_eq_true] at this
  refine ⟨this.2.1, ?_⟩
  have h1 := this.1
  unfold stB at h1
  split at h1
  · omega
  · split at h1
    · omega
    · cases h1
theorem rg_pre {L : List Sg} (h : rgB L = true) (i : Nat) (hi : i + 1 < L.length) : (L.getD i default).1 = 0 ∨ (L.getD i default).1 = 1 := by
  have := rg_ok h i (by omega)
  rw [okB, Bool.and_eq_true] at this
  have h1 := this.1
  rw [decide_eq_false (by omega)] at h1
  unfold stB at h1
  split at h1
  · assumption
  · split at h1 <;> cases h1
/-- what the reference's Match has come to -/
def RmMid (l : List Sg) (path : List ByteArray) (k : Nat) (ps : List Pr) : Prop :=
  k ≤ path.length ∧ mtR l path = (mtR (l.drop k) (path.drop k)).map (ps ++ ·) ∧ ps.length ≤ k

theorem rm_cases {l : List Sg} {path : List ByteArray} {k : Nat} {ps : List Pr} (hr : rgB l = true) (hk : k < l.length) (hm : RmMid l path k ps) (s1 : Int) (s2 : ByteArray) (hg : l.getD k default = (s1, s2)) :
    (s1 = 3 ∧ mtR l path = some (ps ++ [(s2, jnT (path.drop k))])) ∨ (s1 = 2 ∧ k = path.length ∧ mtR l path = some ps) ∨ ((s1 = 0 ∨ s1 = 1) ∧ k = path.length ∧ mtR l path = none)
    ∨ (s1 = 0 ∧ k < path.length ∧ ¬ path.getD k default = s2 ∧ mtR l path = none) ∨ (s1 = 0 ∧ k < path.length ∧ path.getD k default = s2 ∧ RmMid l path (k + 1) ps)
    ∨ ((s1 = 1 ∨ s1 = 2) ∧ k < path.length ∧ RmMid l path (k + 1) (ps ++ [(s2, path.getD k default)])) := by
  obtain ⟨h1, h2, h3⟩ := hm
  have hkind := (ok_parts hr (getD_mem l k hk)).2
  have hlast : s1 = 2 ∨ s1 = 3 → l.drop (k + 1) = [] := by
    intro hs
    by_cases e : k + 1 < l.length
    · have := rg_pre hr k e
      rw [hg] at this
      simp only at this
      omega
    · exact List.drop_eq_nil_of_le (by omega)
  rw [hg] at hkind
  simp only at hkind
  have hd : l.drop k = (s1, s2) :: l.drop (k + 1) := by rw [drop_get l k hk, hg]
  have h2' := h2
  rw [hd, mtR] at h2'
  have step : k < path.length → (path.drop k).drop 1 = path.drop (k + 1) ∧ (path.drop k).take 1 = [path.getD k default] ∧ path.drop k ≠ [] ∧ (path.drop k).getD 0 default = path.getD k default := by
    intro hlt
    rw [drop_get path k hlt]
    exact ⟨rfl, rfl, by simp, rfl⟩
  by_cases hlt : k < path.length
  · obtain ⟨e1, e2, e3, e4⟩ := step hlt
    rcases hkind with rfl | rfl | rfl | rfl
    · by_cases e : path.getD k default = s2
      · refine Or.inr (Or.inr (Or.inr (Or.inr (Or.inl ⟨rfl, hlt, e, by omega, ?_, by omega⟩))))
        rw [show tkN ((0 : Int), s2) (path.drop k) = some 1 by
          rw [tkN, if_neg (by simp), if_neg (by simp), if_neg e3, if_neg (by simp only [e4]; exact fun h => h.2 e)]] at h2'
        rw [h2']
        simp only [e1, e2, Option.map_map]
        congr 1
      · refine Or.inr (Or.inr (Or.inr (Or.inl ⟨rfl, hlt, e, ?_⟩)))
        rw [show tkN ((0 : Int), s2) (path.drop k) = none by
          rw [tkN, if_neg (by simp), if_neg (by simp), if_neg e3, if_pos ⟨rfl, by rw [e4]; exact e⟩]] at h2'
        rw [h2']
        rfl
    · refine Or.inr (Or.inr (Or.inr (Or.inr (Or.inr ⟨Or.inl rfl, hlt, by omega, ?_, by rw [List.length_append]; simp; omega⟩))))
      rw [show tkN ((1 : Int), s2) (path.drop k) = some 1 by
        rw [tkN, if_neg (by simp), if_neg (by simp), if_neg e3, if_neg (by simp)]] at h2'
      rw [h2']
      simp only [e1, e2, Option.map_map]
      congr 1
      funext z
      show ps ++ (tlP (1, s2) [path.getD k default] ++ z) = ps ++ [(s2, path.getD k default)] ++ z
      rw [List.append_assoc]
      rfl
    · refine Or.inr (Or.inr (Or.inr (Or.inr (Or.inr ⟨Or.inr rfl, hlt, by omega, ?_, by rw [List.length_append]; simp; omega⟩))))
      rw [show tkN ((2 : Int), s2) (path.drop k) = some 1 by
        rw [tkN, if_pos rfl, List.length_drop, Nat.min_eq_right (by omega)]] at h2'
      rw [h2']
      simp only [e1, e2, Option.map_map]
      congr 1
      funext z
      show ps ++ (tlP (2, s2) [path.getD k default] ++ z) = ps ++ [(s2, path.getD k default)] ++ z
      rw [List.append_assoc]
      rfl
    · refine Or.inl ⟨rfl, ?_⟩
      rw [show tkN ((3 : Int), s2) (path.drop k) = some (path.drop k).length by rw [tkN, if_neg (by simp), if_pos rfl]] at h2'
      rw [h2', hlast (Or.inr rfl)]
      simp only [List.drop_length, List.take_length]
      rfl
  · have ek : k = path.length := by omega
    have e0 : path.drop k = [] := List.drop_eq_nil_of_le (by omega)
    rcases hkind with rfl | rfl | rfl | rfl
    · refine Or.inr (Or.inr (Or.inl ⟨Or.inl rfl, ek, ?_⟩))
      rw [e0] at h2'
      exact h2'
    · refine Or.inr (Or.inr (Or.inl ⟨Or.inr rfl, ek, ?_⟩))
      rw [e0] at h2'
      exact h2'
    · refine Or.inr (Or.inl ⟨rfl, ek, ?_⟩)
      rw [e0, hlast (Or.inl rfl)] at h2'
      rw [h2']
      show some (ps ++ ([] ++ [])) = some ps
      simp
    · refine Or.inl ⟨rfl, ?_⟩
      rw [e0, hlast (Or.inr rfl)] at h2'
      rw [h2', e0]
      rfl
theorem rm_end {l : List Sg} {path : List ByteArray} {ps : List Pr} (hm : RmMid l path l.length ps) : mtR l path = if path.length = l.length then some ps else none := by
  obtain ⟨h1, h2, _⟩ := hm
  rw [h2, List.drop_length, mtR]
  by_cases e : path.length = l.length
  · rw [if_pos e, if_pos (List.drop_eq_nil_of_le (by omega))]
    simp
  · rw [if_neg e, if_neg]
    · rfl
    · intro h
      have := congrArg List.length h
      rw [List.length_drop] at this
      simp at this
      omega
theorem jnL_snoc : ∀ (a : List (List Int)) (x : List Int), a ≠ [] → jnL (a ++ [x]) = jnL a ++ 47 :: x := by
  intro a
  induction a with
  | nil => intro x h; exact absurd rfl h
  | cons y r ih =>
    intro x _
    cases r with
    | nil => rfl
    | cons z r' =>
      have := ih x (by simp)
      show y ++ 47 :: jnL (z :: r' ++ [x]) = (y ++ 47 :: jnL (z :: r')) ++ 47 :: x
      rw [this]
      simp
theorem jnL_inR : ∀ (a : List (List Int)), (∀ x ∈ a, InR x) → InR (jnL a) := by
  intro a
  induction a with
  | nil => intro _ x hx; cases hx
  | cons y r ih =>
    intro h
    cases r with
    | nil => exact h y (by simp)
    | cons z r' =>
      have h1 := h y (by simp)
      have h2 := ih (fun x hx => h x (by simp only [List.mem_cons] at hx ⊢; exact Or.inr hx))
      intro c hc
      have hc : c ∈ y ++ 47 :: jnL (z :: r') := hc
      rw [List.mem_append, List.mem_cons] at hc
      rcases hc with hc | rfl | hc
      · exact h1 c hc
      · omega
      · exact h2 c hc
theorem jn_inR (l : List ByteArray) : InR (jnL (l.map (fun s => encL (bs s)))) := by
  refine jnL_inR _ (fun x hx => ?_)
  rw [List.mem_map] at hx
  obtain ⟨s, _, rfl⟩ := hx
  exact encL_inR (bs_inR s)
theorem jn_one (x : ByteArray) : jnT [x] = encS x := rfl
theorem jn_snoc (a : List ByteArray) (x : ByteArray) (h : a ≠ []) : jnT (a ++ [x]) = jnT a ++ ⟨#[47]⟩ ++ encS x := by
  apply bs_inj
  rw [bs_append, bs_append, jnT, jnT, encS, bs_st (jn_inR _), bs_st (jn_inR _), bs_st (encL_inR (bs_inR x)), List.map_append, List.map_cons, List.map_nil, jnL_snoc _ _ (by simpa using h), List.append_assoc]
  rfl
theorem jn_size (a : List ByteArray) (B : Nat) (h : ∀ s ∈ a, s.size ≤ B) : (jnT a).size ≤ a.length * (3 * B + 1) := by
  rw [jnT, st_size]
  have := jnL_len (3 * B) (a.map (fun s => encL (bs s))) (by
    intro x hx
    rw [List.mem_map] at hx
    obtain ⟨s, hs, rfl⟩ := hx
    have h1 := encL_len (bs s)
    rw [bs_len] at h1
    have := h s hs
    omega)
  rwa [List.length_map] at this
end Go.Proofs.Ytgiepgbjkkhniaa

namespace Go.Proofs.Ytgiepgbjkkhniaa
open Go.RowKit Go.PlainAid

theorem encS_le (x : ByteArray) : (encS x).size ≤ 3 * x.size := by
  rw [encS, st_size]
  have := encL_len (bs x)
  rwa [bs_len] at this

theorem keep49 {B : Nat} {w0 W w' : World} {v : Value} {xs : List Pr} {k : Nat} {cs : Array Value} (ho : OwnP B w0 v xs W) (h : W.heap[k]? = some (.cells cs 23 (0, 0))) (hg : W.grownBy w' v.ownBlock) : w'.heap[k]? = some (.cells cs 23 (0, 0)) := by
  refine (hg.block k (blk_lt h) ?_).trans h
  intro e
  obtain ⟨_, ⟨rfl, _⟩ | ⟨g, cap, cur, rfl, _, hgg, _⟩⟩ := ho.1
  · cases e
  · simp only [Value.ownBlock, Option.some.injEq] at e
    subst e
    rw [hgg] at h
    simp at h

set_option maxHeartbeats 3200000 in
set_option maxRecDepth 100000 in
theorem match14 (v1 v2 : Value) (l : List Sg) (path : List ByteArray) (w : World) (h1 : Gs w v1 l) (h2 : Ss w v2 path) (hs : ∀ s ∈ path, s.size ≤ 100000000) (hl : path.length ≤ 1000) (hgs : ∀ g ∈ l, g.2.size ≤ 9223372036854775807) :
    Calls Try.prog 16 #[v1, v2] w fun e w' => ∃ v, e = .returned (.tuple #[v, .bool (mtB l path)]) ∧ Ps w' v (mtL l path) ∧ Below w.heap.size w w' := by
  by_cases hr : rgB l = true
  · have HG := Lib.hid h1
    have HS := Lib.hid h2
    have hl8 := rg_len hr
    have HE := Lib.hid (mt_some (path := path) hr)
    have HZ := Lib.hid hs
    have HGS := Lib.hid hgs
    obtain ⟨A, cap, rfl, hcap, _, hc⟩ := h1
    have HC := Lib.hid hc
    obtain ⟨A2, c2, rfl, hc2, _, hp⟩ := h2
    have HP := Lib.hid hp
    clear hc hp hs hgs
    go_enter Try.func16, Try.ntmps16
    go_wp2_with (first | (go_at_call 15; refine (rightPat17 _ _ _ HG.out HGS.out).mono ?_; rintro e w6 ⟨rfl, h6⟩; rw [hr]; have H6 := Lib.hid h6; clear h6))
    go_loopw [6, 16] (fun p i wr => ∃ (k : Nat) (ps : List Pr), k ≤ l.length ∧ i = .int .i64 k ∧ OwnP w6.heap.size w6 p ps wr ∧ RmMid l path k ps) (fun _ i _ => l.length - (intOf i).toNat)
    case atStart => exact ⟨0, [], Nat.zero_le _, rfl, nilP _ _ _ (Below.refl _ _) (Nat.le_refl _), by omega, by simp, by simp⟩
    case round =>
      obtain ⟨k, ps, hk, rfl, hown, hmid⟩ := hrel
      have HO := Lib.hid hown
      have HM := Lib.hid hmid
      have hkp := hmid.1
      have hpsk := hmid.2.2
      obtain ⟨A7, n7, c7, hv7⟩ := hown.ps.shape
      subst hv7
      clear hown hmid
      by_cases hlt : k < l.length
      · have d0 : (k : Int) < (l.length : Int) := by omega
        obtain ⟨x, o, rfl, hcell, hcelb⟩ := HC.out k hlt
        have hbz := H6.out.trans (HO.out.2.1.mono H6.out.size)
        have g1 : wr.cell? ⟨x, o + k * 2, none⟩ = some (.int .i64 (l.getD k default).1) := by rw [hbz.cell (World.block_lt_of_cell? _ _ hcell)]; exact hcell
        have g3 : wr.cell? ⟨x, o + k * 2 + 1, none⟩ = some (.string (l.getD k default).2) := by rw [hbz.cell (World.block_lt_of_cell? _ _ hcelb)]; exact hcelb
        have HBZ := Lib.hid hbz
        obtain ⟨⟨s1, s2⟩, hg⟩ : ∃ g, l.getD k default = g := ⟨_, rfl⟩
        have HCS := Lib.hid (rm_cases hr hlt HM.out s1 s2 hg)
        rw [hg] at g1 g3
        simp only at g1 g3
        clear hcell hcelb hbz hg
        have HX := Lib.hid (blk_new wr (.cells #[.int .i64 s1, .string s2] 23 (0, 0)))
        have HY := Lib.hid ((Below.refl wr.heap.size wr).alloc (Nat.le_refl _) (.cells #[.int .i64 s1, .string s2] 23 (0, 0)))
        have HO9 := Lib.hid (HO.out.alloc (.cells #[.int .i64 s1, .string s2] 23 (0, 0)))
        have HB9 := Lib.hid (HBZ.out.trans (HY.out.mono HBZ.out.size))
        have eb : Hid (ps.length ≤ 1000000000) := by show _ ≤ _; omega
        have d5 : IntKind.i64.wrap ((k : Int) + 1) = (k : Int) + 1 := IntWalk.i64_in _ (by omega)
        rcases HCS.out with ⟨rfl, hR⟩ | ⟨rfl, hkl, hR⟩ | ⟨hss, hkl, hR⟩ | ⟨rfl, hkl, hne, hR⟩ | ⟨rfl, hkl, heq, hR⟩ | ⟨hss, hkl, hR⟩
        · have HE2 : Hid (mtB l path = true ∧ mtL l path = ps ++ [(s2, jnT (path.drop k))]) := ⟨by rw [HE.out.1, hR]; rfl, by rw [HE.out.2, hR]; rfl⟩
          clear hR
          go_wp2_with fail
          generalize wr.alloc (.cells #[.int .i64 3, .string s2] 23) = w9 at *
          generalize wr.heap.size = R at *
          go_loopw [9, 10] (fun r j wz => ∃ (m : Nat), k ≤ m ∧ m ≤ path.length ∧ j = .int .i64 m ∧ r = .string (jnT ((path.drop k).take (m - k))) ∧ Below w9.heap.size w9 wz) (fun _ j _ => path.length - (intOf j).toNat)
          case atStart => exact ⟨k, Nat.le_refl _, hkp, rfl, by rw [Nat.sub_self]; rfl, Below.refl _ _⟩
          case round =>
            obtain ⟨m, hm1, hm2, rfl, rfl, hbm⟩ := hrel
            have HBM := Lib.hid hbm
            clear hbm
            by_cases hlm : m < path.length
            · have d1 : (m : Int) < (path.length : Int) := by omega
              obtain ⟨b2, o2, rfl, hpc⟩ := HP.out m hlm
              have hb3 := HB9.out.trans (HBM.out.mono HB9.out.size)
              have gp : wr.cell? ⟨b2, o2 + m, none⟩ = some (.string (path.getD m default)) := by rw [hb3.cell (World.block_lt_of_cell? _ _ hpc)]; exact hpc
              have hxs := HZ.out _ (getD_mem path m hlm)
              have htk : (path.drop k).take (m + 1 - k) = (path.drop k).take (m - k) ++ [path.getD m default] := by
                rw [show m + 1 - k = (m - k) + 1 by omega, List.take_add_one]
                congr 1
                have : (path.drop k)[m - k]? = some (path.getD m default) := by
                  rw [List.getElem?_drop, show k + (m - k) = m by omega]
                  simp [List.getD, hlm]
                rw [this]
                rfl
              have HTK := Lib.hid htk
              have hez := encS_le (path.getD m default)
              have hjz := jn_size ((path.drop k).take (m - k)) 100000000 (fun s hs => HZ.out s (List.mem_of_mem_drop (List.mem_of_mem_take hs)))
              have hjl : ((path.drop k).take (m - k)).length = m - k := by rw [List.length_take, List.length_drop]; omega
              rw [hjl] at hjz
              have hjz2 : (jnT ((path.drop k).take (m - k))).size ≤ 1000 * (3 * 100000000 + 1) := Nat.le_trans hjz (Nat.mul_le_mul_right _ (by omega))
              have d6 : IntKind.i64.wrap ((m : Int) + 1) = (m : Int) + 1 := IntWalk.i64_in _ (by omega)
              clear hpc hb3 htk hjz
              by_cases hkm : k < m
              · have d2 : (k : Int) < (m : Int) := by omega
                have HJ := Lib.hid (jn_snoc ((path.drop k).take (m - k)) (path.getD m default) (by intro e; rw [e] at hjl; simp at hjl; omega))
                clear hjl
                generalize path.getD m default = X at *
                generalize (path.drop k).take (m - k) = a at *
                generalize jnT a = T at *
                have n1 : ¬ 9223372036854775807 < T.size + 1 := by omega
                have n2 : ¬ 9223372036854775807 < T.size + 1 + (encS X).size := by omega
                go_wp2_with (first | (go_at_call 30; refine (encodeR _ _ (by omega)).mono ?_; rintro e w7 ⟨rfl, h7⟩; have H7 := Lib.hid h7; clear h7))
                go_roundw
                case rel => exact ⟨m + 1, by omega, by omega, by go_num, by rw [HTK.out, HJ.out], HBM.out.trans (H7.out.mono HBM.out.size)⟩
                case measure => simp [intOf]; omega
              · obtain rfl : m = k := by omega
                have d2 : ¬ (m : Int) < (m : Int) := by omega
                have HA : Hid ((path.drop m).take (m - m) = []) := by show _ = _; rw [Nat.sub_self]; rfl
                have HJ := Lib.hid (jn_one (path.getD m default))
                have HT0 : Hid (jnT ((path.drop m).take (m - m)) = ⟨#[]⟩) := by show _ = _; rw [HA.out]; decide +kernel
                rw [HT0.out]
                clear hjl hjz2
                generalize path.getD m default = X at *
                have hae : (⟨#[]⟩ : ByteArray) ++ encS X = encS X := by apply bs_inj; rw [bs_append]; rfl
                have n2 : ¬ 9223372036854775807 < (encS X).size := by omega
                go_wp2_with (first | (go_at_call 30; refine (encodeR _ _ (by omega)).mono ?_; rintro e w7 ⟨rfl, h7⟩; have H7 := Lib.hid h7; clear h7))
                go_roundw
                case rel => exact ⟨m + 1, by omega, by omega, by go_num, by rw [HTK.out, HA.out, List.nil_append, HJ.out], HBM.out.trans (H7.out.mono HBM.out.size)⟩
                case measure => simp [intOf]; omega
            · obtain rfl : m = path.length := by omega
              have hTT : (path.drop k).take (path.length - k) = path.drop k := List.take_of_length_le (by rw [List.length_drop]; omega)
              rw [hTT] at *
              have HO3 := Lib.hid (HO9.out.call HBM.out)
              obtain ⟨k0, k1, _, _⟩ := blk2 (blk_call HX.out HBM.out)
              generalize jnT (path.drop k) = T at *
              go_wp2_with (first | (at_builtin; refine wpList_appP _ rfl (.tmp 44) (.tmp 49) rfl w6.heap.size w6 _ ps rfl (HO3.out.alloc _) ?b1 wr.heap.size 1 1 [(s2, T)] rfl rfl (by omega) (heap_alloc_new _ _) ?_))
              case b1 => exact eb.out
              intro v4 w4 h4 hg4 _
              have H4 := Lib.hid h4
              obtain ⟨A8, n8, c8, hv8⟩ := h4.ps.shape
              subst hv8
              clear h4 hg4
              have HB4 := Lib.hid (H6.out.trans (H4.out.2.1.mono H6.out.size))
              go_wp2
              rw [HE2.out.1, HE2.out.2]
              go_ret2
              exact ⟨_, rfl, H4.out.ps, HB4.out⟩
        · have HE2 : Hid (mtB l path = true ∧ mtL l path = ps) := ⟨by rw [HE.out.1, hR]; rfl, by rw [HE.out.2, hR]; rfl⟩
          have HPS := Lib.hid HO9.out.ps
          clear hR
          subst hkl
          go_wp2
          rw [HE2.out.1, HE2.out.2]
          go_ret2
          exact ⟨_, rfl, HPS.out, HB9.out⟩
        · have HE2 : Hid (mtB l path = false ∧ mtL l path = []) := ⟨by rw [HE.out.1, hR]; rfl, by rw [HE.out.2, hR]; rfl⟩
          clear hR
          subst hkl
          have c3 : (path.length : Int) ≤ (path.length : Int) := by omega
          rcases hss with rfl | rfl
          all_goals
            go_wp2_with fail
            go_region
            go_wp2
            rw [HE2.out.1, HE2.out.2]
            go_ret2
            exact ⟨_, rfl, ps_nil _, HB9.out.drew⟩
        · have HE2 : Hid (mtB l path = false ∧ mtL l path = []) := ⟨by rw [HE.out.1, hR]; rfl, by rw [HE.out.2, hR]; rfl⟩
          have c3 : ¬ (path.length : Int) ≤ (k : Int) := by omega
          have c5 : (k : Int) < (path.length : Int) := by omega
          obtain ⟨b2, o2, rfl, hpc⟩ := HP.out k hkl
          have gp : wr.cell? ⟨b2, o2 + k, none⟩ = some (.string (path.getD k default)) := by rw [HBZ.out.cell (World.block_lt_of_cell? _ _ hpc)]; exact hpc
          have q1 := str_bne (path.getD k default) s2 hne
          clear hR hne hpc
          generalize path.getD k default = X at *
          have gp9 : (wr.alloc (.cells #[.int .i64 0, .string s2] 23)).cell? ⟨b2, o2 + k, none⟩ = some (.string X) := by rw [HY.out.cell (World.block_lt_of_cell? _ _ gp)]; exact gp
          go_wp2_with fail
          generalize wr.alloc (.cells #[.int .i64 0, .string s2] 23) = w9 at *
          generalize wr.heap.size = R at *
          obtain ⟨k0, k1, _, _⟩ := blk2 HX.out
          have d8 : decide (path.length ≤ k) = false := decide_eq_false (by omega)
          have d9 : ¬ path.length ≤ k := by omega
          have KS : Hid (∀ w' : World, Below w9.heap.size w9 w' → w'.cell? ⟨R, 0, none⟩ = some (.int .i64 0) ∧ w'.cell? ⟨R, 1, none⟩ = some (.string s2) ∧ w'.cell? ⟨b2, o2 + k, none⟩ = some (.string X)) := by
            intro w' hk
            obtain ⟨a, b, _, _⟩ := blk2 (blk_call HX.out hk)
            exact ⟨a, b, (hk.cell (World.block_lt_of_cell? _ _ gp9)).trans gp9⟩
          go_region_held3 (fun w' => w'.cell? ⟨R, 0, none⟩ = some (.int .i64 0) ∧ w'.cell? ⟨R, 1, none⟩ = some (.string s2) ∧ w'.cell? ⟨b2, o2 + k, none⟩ = some (.string X))
            (first | exact KS.out _ ((Below.refl _ _).drew)) (fail)
          go_wp2
          rw [HE2.out.1, HE2.out.2]
          go_ret2
          exact ⟨_, rfl, ps_nil _, HB9.out.drew⟩
        · have c3 : ¬ (path.length : Int) ≤ (k : Int) := by omega
          have c5 : (k : Int) < (path.length : Int) := by omega
          obtain ⟨b2, o2, rfl, hpc⟩ := HP.out k hkl
          have gp : wr.cell? ⟨b2, o2 + k, none⟩ = some (.string (path.getD k default)) := by rw [HBZ.out.cell (World.block_lt_of_cell? _ _ hpc)]; exact hpc
          have q1 := str_beq (path.getD k default) s2 heq
          have HRM := Lib.hid hR
          clear hR heq hpc
          generalize path.getD k default = X at *
          have gp9 : (wr.alloc (.cells #[.int .i64 0, .string s2] 23)).cell? ⟨b2, o2 + k, none⟩ = some (.string X) := by rw [HY.out.cell (World.block_lt_of_cell? _ _ gp)]; exact gp
          go_wp2_with fail
          generalize wr.alloc (.cells #[.int .i64 0, .string s2] 23) = w9 at *
          generalize wr.heap.size = R at *
          obtain ⟨k0, k1, _, _⟩ := blk2 HX.out
          have d8 : decide (path.length ≤ k) = false := decide_eq_false (by omega)
          have d9 : ¬ path.length ≤ k := by omega
          have KS : Hid (∀ w' : World, Below w9.heap.size w9 w' → w'.cell? ⟨R, 0, none⟩ = some (.int .i64 0) ∧ w'.cell? ⟨R, 1, none⟩ = some (.string s2) ∧ w'.cell? ⟨b2, o2 + k, none⟩ = some (.string X)) := by
            intro w' hk
            obtain ⟨a, b, _, _⟩ := blk2 (blk_call HX.out hk)
            exact ⟨a, b, (hk.cell (World.block_lt_of_cell? _ _ gp9)).trans gp9⟩
          go_region_held3 (fun w' => w'.cell? ⟨R, 0, none⟩ = some (.int .i64 0) ∧ w'.cell? ⟨R, 1, none⟩ = some (.string s2) ∧ w'.cell? ⟨b2, o2 + k, none⟩ = some (.string X))
            (first | exact KS.out _ ((Below.refl _ _).drew)) (fail)
          go_wp2_with fail
          go_roundw
          case rel => exact ⟨k + 1, ps, by omega, by go_num, HO9.out.drew, HRM.out⟩
          case measure => simp [intOf]; omega
        · have c3 : ¬ (path.length : Int) ≤ (k : Int) := by omega
          have c5 : (k : Int) < (path.length : Int) := by omega
          have c6 : ((k : Int) == (path.length : Int)) = false := by simp; omega
          obtain ⟨b2, o2, rfl, hpc⟩ := HP.out k hkl
          have G6 : Hid (w6.cell? ⟨b2, o2 + k, none⟩ = some (.string (path.getD k default))) := by show _ = _; rw [H6.out.cell (World.block_lt_of_cell? _ _ hpc)]; exact hpc
          have gp : wr.cell? ⟨b2, o2 + k, none⟩ = some (.string (path.getD k default)) := by rw [HBZ.out.cell (World.block_lt_of_cell? _ _ hpc)]; exact hpc
          have HRM := Lib.hid hR
          clear hR hpc
          generalize path.getD k default = X at *
          rcases hss with rfl | rfl
          · have gp9 : (wr.alloc (.cells #[.int .i64 1, .string s2] 23)).cell? ⟨b2, o2 + k, none⟩ = some (.string X) := by rw [HY.out.cell (World.block_lt_of_cell? _ _ gp)]; exact gp
            go_wp2_with fail
            generalize wr.alloc (.cells #[.int .i64 1, .string s2] 23) = w9 at *
            generalize wr.heap.size = R at *
            obtain ⟨k0, k1, _, _⟩ := blk2 HX.out
            have d8 : decide (path.length ≤ k) = false := decide_eq_false (by omega)
            have d9 : ¬ path.length ≤ k := by omega
            have KS : Hid (∀ w' : World, Below w9.heap.size w9 w' → w'.cell? ⟨R, 0, none⟩ = some (.int .i64 1) ∧ w'.cell? ⟨R, 1, none⟩ = some (.string s2) ∧ w'.cell? ⟨b2, o2 + k, none⟩ = some (.string X)) := by
              intro w' hk
              obtain ⟨a, b, _, _⟩ := blk2 (blk_call HX.out hk)
              exact ⟨a, b, (hk.cell (World.block_lt_of_cell? _ _ gp9)).trans gp9⟩
            go_region
            go_wp2_with fail
            have HO10 := Lib.hid HO9.out.drew
            have HX10 : Hid (w9.drew.heap[R]? = some (.cells #[.int .i64 1, .string s2] 23 (0, 0))) := HX.out
            have gp6 : w6.cell? ⟨b2, o2 + k, none⟩ = some (.string X) := G6.out
            have HG6 := Lib.hid gp6
            have KS2 : Hid (∀ w' : World, w'.heap[R]? = some (.cells #[.int .i64 1, .string s2] 23 (0, 0)) → Below w6.heap.size w6 w' → w'.cell? ⟨R, 0, none⟩ = some (.int .i64 1) ∧ w'.cell? ⟨R, 1, none⟩ = some (.string s2) ∧ w'.cell? ⟨b2, o2 + k, none⟩ = some (.string X)) := by
              intro w' h1 h2
              obtain ⟨a, b, _, _⟩ := blk2 h1
              exact ⟨a, b, (h2.cell (World.block_lt_of_cell? _ _ HG6.out)).trans HG6.out⟩
            clear gp6 HX KS HO9
            generalize w9.drew = w10 at *
            go_region_held3 (fun w' => w'.cell? ⟨R, 0, none⟩ = some (.int .i64 1) ∧ w'.cell? ⟨R, 1, none⟩ = some (.string s2) ∧ w'.cell? ⟨b2, o2 + k, none⟩ = some (.string X))
              (first | exact KS2.out _ HX10.out HO10.out.drew.2.1 | exact KS2.out _ (blk_alloc HX10.out _) (HO10.out.alloc _).drew.2.1 | exact KS2.out _ HK4.out H4.out.2.1)
              (first
                | (refine step_appP _ rfl (.tmp 85) (.tmp 93) rfl w6.heap.size w6 _ ps (by rfl) ((HO10.out.alloc _).drew) eb.out w10.heap.size 1 1 [(s2, X)] (by rfl) rfl (by omega) (heap_alloc_new _ _) ?_
                   intro v4 w4 h4 g4
                   have HK4 := Lib.hid (keep49 (HO10.out.alloc _).drew (blk_alloc HX10.out _) g4)
                   have H4 := Lib.hid h4
                   clear h4 g4))
            go_wp2_with fail
            go_roundw
            case rel => exact ⟨k + 1, ps ++ [(s2, X)], by omega, by go_num, H4.out, HRM.out⟩
            case measure => simp [intOf]; omega
          · have gp9 : (wr.alloc (.cells #[.int .i64 2, .string s2] 23)).cell? ⟨b2, o2 + k, none⟩ = some (.string X) := by rw [HY.out.cell (World.block_lt_of_cell? _ _ gp)]; exact gp
            go_wp2_with fail
            generalize wr.alloc (.cells #[.int .i64 2, .string s2] 23) = w9 at *
            generalize wr.heap.size = R at *
            obtain ⟨k0, k1, _, _⟩ := blk2 HX.out
            have d8 : decide (path.length ≤ k) = false := decide_eq_false (by omega)
            have d9 : ¬ path.length ≤ k := by omega
            have KS : Hid (∀ w' : World, Below w9.heap.size w9 w' → w'.cell? ⟨R, 0, none⟩ = some (.int .i64 2) ∧ w'.cell? ⟨R, 1, none⟩ = some (.string s2) ∧ w'.cell? ⟨b2, o2 + k, none⟩ = some (.string X)) := by
              intro w' hk
              obtain ⟨a, b, _, _⟩ := blk2 (blk_call HX.out hk)
              exact ⟨a, b, (hk.cell (World.block_lt_of_cell? _ _ gp9)).trans gp9⟩
            go_region
            go_wp2_with fail
            have HO10 := Lib.hid HO9.out.drew
            have HX10 : Hid (w9.drew.heap[R]? = some (.cells #[.int .i64 2, .string s2] 23 (0, 0))) := HX.out
            have gp6 : w6.cell? ⟨b2, o2 + k, none⟩ = some (.string X) := G6.out
            have HG6 := Lib.hid gp6
            have KS2 : Hid (∀ w' : World, w'.heap[R]? = some (.cells #[.int .i64 2, .string s2] 23 (0, 0)) → Below w6.heap.size w6 w' → w'.cell? ⟨R, 0, none⟩ = some (.int .i64 2) ∧ w'.cell? ⟨R, 1, none⟩ = some (.string s2) ∧ w'.cell? ⟨b2, o2 + k, none⟩ = some (.string X)) := by
              intro w' h1 h2
              obtain ⟨a, b, _, _⟩ := blk2 h1
              exact ⟨a, b, (h2.cell (World.block_lt_of_cell? _ _ HG6.out)).trans HG6.out⟩
            clear gp6 HX KS HO9
            generalize w9.drew = w10 at *
            go_region_held3 (fun w' => w'.cell? ⟨R, 0, none⟩ = some (.int .i64 2) ∧ w'.cell? ⟨R, 1, none⟩ = some (.string s2) ∧ w'.cell? ⟨b2, o2 + k, none⟩ = some (.string X))
              (first | exact KS2.out _ HX10.out HO10.out.drew.2.1 | exact KS2.out _ (blk_alloc HX10.out _) (HO10.out.alloc _).drew.2.1 | exact KS2.out _ HK4.out H4.out.2.1)
              (first
                | (refine step_appP _ rfl (.tmp 85) (.tmp 93) rfl w6.heap.size w6 _ ps (by rfl) ((HO10.out.alloc _).drew) eb.out w10.heap.size 1 1 [(s2, X)] (by rfl) rfl (by omega) (heap_alloc_new _ _) ?_
                   intro v4 w4 h4 g4
                   have HK4 := Lib.hid (keep49 (HO10.out.alloc _).drew (blk_alloc HX10.out _) g4)
                   have H4 := Lib.hid h4
                   clear h4 g4))
            go_wp2_with fail
            go_roundw
            case rel => exact ⟨k + 1, ps ++ [(s2, X)], by omega, by go_num, H4.out, HRM.out⟩
            case measure => simp [intOf]; omega
      · obtain rfl : k = l.length := by omega
        have hR := rm_end HM.out
        have HBr := Lib.hid (H6.out.trans (HO.out.2.1.mono H6.out.size))
        have HPS := Lib.hid HO.out.ps
        by_cases e : path.length = l.length
        · rw [if_pos e] at hR
          have HE2 : Hid (mtB l path = true ∧ mtL l path = ps) := ⟨by rw [HE.out.1, hR]; rfl, by rw [HE.out.2, hR]; rfl⟩
          have c7 : ((path.length : Int) != (l.length : Int)) = false := by simp [e]
          have c8 : (path.length != l.length) = false := by simp [e]
          clear hR
          go_wp2
          rw [HE2.out.1, HE2.out.2]
          go_ret2
          exact ⟨_, rfl, HPS.out, HBr.out⟩
        · rw [if_neg e] at hR
          have HE2 : Hid (mtB l path = false ∧ mtL l path = []) := ⟨by rw [HE.out.1, hR]; rfl, by rw [HE.out.2, hR]; rfl⟩
          have c7 : ((path.length : Int) != (l.length : Int)) = true := by simp; omega
          have c8 : (path.length != l.length) = true := by simpa using e
          clear hR
          go_wp2
          rw [HE2.out.1, HE2.out.2]
          go_ret2
          exact ⟨_, rfl, ps_nil _, HBr.out⟩
  · have hr : rgB l = false := by simpa using hr
    have HE := Lib.hid (mt_wrong (path := path) hr)
    have HG := Lib.hid h1
    have HGS := Lib.hid hgs
    obtain ⟨A, n, c, rfl⟩ := h1.shape
    obtain ⟨A2, n2, c2, rfl⟩ := h2.shape
    clear h1 h2 hs hgs
    go_enter Try.func16, Try.ntmps16
    go_wp2_with (first | (go_at_call 15; refine (rightPat17 _ _ _ HG.out HGS.out).mono ?_; rintro e w6 ⟨rfl, h6⟩; rw [hr]; have H6 := Lib.hid h6; clear h6))
    rw [HE.out.1, HE.out.2]
    go_ret2
    exact ⟨_, rfl, ps_nil _, H6.out⟩
end Go.Proofs.Ytgiepgbjkkhniaa

namespace Go.Proofs.Ytgiepgbjkkhniaa
open Go.RowKit Go.PlainAid

set_option maxHeartbeats 1000000 in
theorem sign22 (n : Int) (w : World) : Calls Try.prog 31 #[.int .i64 n] w fun e w' => e = .returned (.int .i64 (cI n 0)) ∧ w' = w := by
  rcases cI_cases n 0 with ⟨h, e⟩ | ⟨h, e⟩ | ⟨h, e⟩
  · rw [e]
    clear e
    go_enter Try.func31, Try.ntmps31
    go_wp2
    go_ret
    exact ⟨rfl, rfl⟩
  · rw [e]
    clear e
    subst h
    go_enter Try.func31, Try.ntmps31
    go_wp2
    go_ret
    exact ⟨rfl, rfl⟩
  · rw [e]
    clear e
    have h2 : ¬ n < 0 := by omega
    go_enter Try.func31, Try.ntmps31
    go_wp2
    go_ret
    exact ⟨rfl, rfl⟩
theorem cI_sub (a b : Int) : cI (a - b) 0 = cI a b := by
  have h1 := cI_cases (a - b) 0
  have h2 := cI_cases a b
  omega

set_option maxHeartbeats 3200000 in
theorem refCompare12 (v1 v2 : Value) (a b : List Sg) (w : World) (h1 : Gs w v1 a) (h2 : Gs w v2 b) (hz : a.length ≤ 1000000000) (hz2 : b.length ≤ 1000000000) :
    Calls Try.prog 17 #[v1, v2] w fun e w' => e = .returned (.int .i64 (cP a b)) ∧ ∃ q, w' = w.drewN q := by
  have HP := Lib.hid (cP_is a b)
  rw [← pKf_zero, ← pTf_zero] at HP
  generalize cP a b = V at *
  obtain ⟨A, cap, rfl, _, _, hc⟩ := h1
  obtain ⟨A2, cap2, rfl, _, _, hc2⟩ := h2
  have HC := Lib.hid hc
  have HC2 := Lib.hid hc2
  clear hc hc2
  go_enter Try.func17, Try.ntmps17
  go_wp2_with fail
  go_loopw [5] (fun i wr => ∃ (k : Nat), k ≤ a.length ∧ k ≤ b.length ∧ i = .int .i64 k ∧ Hid (V = if pKf a b k ≠ 0 then pKf a b k else if cI b.length a.length ≠ 0 then cI b.length a.length else pTf a b 0) ∧ Hid (∃ q, wr = w.drewN q)) (fun i _ => a.length - (intOf i).toNat)
  case atStart => exact ⟨0, Nat.zero_le _, Nat.zero_le _, rfl, HP.out, 0, rfl⟩
  case round =>
    obtain ⟨k, hk, hk2, rfl, ht, hw⟩ := hrel
    by_cases hlt : k < a.length ∧ k < b.length
    · obtain ⟨hla, hlb⟩ := hlt
      have d1 : (k : Int) < (a.length : Int) := by omega
      have d2 : (k : Int) < (b.length : Int) := by omega
      have HX := Lib.hid (pKf_next (a := a) (b := b) (k := k) hla hlb)
      obtain ⟨x, o, rfl, hcell, _⟩ := HC.out k hla
      obtain ⟨x2, o2, rfl, hcell2, _⟩ := HC2.out k hlb
      have g1 : wr.cell? ⟨x, o + k * 2, none⟩ = some (.int .i64 (a.getD k default).1) := by rw [drC hw.out]; exact hcell
      have g2 : wr.cell? ⟨x2, o2 + k * 2, none⟩ = some (.int .i64 (b.getD k default).1) := by rw [drC hw.out]; exact hcell2
      clear hcell hcell2
      generalize (a.getD k default).1 = s at *
      generalize (b.getD k default).1 = t at *
      rcases cI_cases s t with ⟨h, e⟩ | ⟨h, e⟩ | ⟨h, e⟩
      · have HN : Hid (V = -1) := by
          have h5 := HX.out
          rw [e, if_pos (by decide)] at h5
          have := ht.out
          rw [h5] at this
          simp at this
          exact this
        clear e HX ht HP
        go_wp2_with fail
        go_quiet (fail)
        go_wp2
        rw [HN.out]
        go_ret
        exact ⟨rfl, drN hw.out _⟩
      · have HN : Hid (V = if pKf a b (k + 1) ≠ 0 then pKf a b (k + 1) else if cI b.length a.length ≠ 0 then cI b.length a.length else pTf a b 0) := by
          have h5 := HX.out
          rw [e, if_neg (by simp)] at h5
          have := ht.out
          rw [h5] at this
          exact this
        have q1 : ¬ s < t := by omega
        have q2 : ¬ t < s := by omega
        clear e HX ht HP h
        go_wp2_with fail
        go_quiet (fail)
        go_wp2_with fail
        go_quiet (fail)
        go_wp2_with fail
        go_roundw
        case rel => exact ⟨k + 1, by omega, by omega, by go_num, HN.out, drN hw.out _⟩
        case measure => simp [intOf]; omega
      · have HN : Hid (V = 1) := by
          have h5 := HX.out
          rw [e, if_pos (by decide)] at h5
          have := ht.out
          rw [h5] at this
          simp at this
          exact this
        have q1 : ¬ s < t := by omega
        clear e HX ht HP
        go_wp2_with fail
        go_quiet (fail)
        go_wp2_with fail
        go_quiet (fail)
        go_wp2
        rw [HN.out]
        go_ret
        exact ⟨rfl, drN (drN hw.out _) _⟩
    · have HN : Hid (V = if cI b.length a.length ≠ 0 then cI b.length a.length else pTf a b 0) := by
        have := ht.out
        rw [pKf_end (by omega), if_neg (by simp)] at this
        exact this
      by_cases hl : a.length = b.length
      · obtain rfl : k = a.length := by omega
        have HN2 : Hid (pTf a b 0 = V) := by
          have := HN.out
          have e := (tcI.zero (b.length : Int) (a.length : Int)).2 (by omega)
          rw [e, if_neg (by simp)] at this
          exact this.symm
        have c0 : ((a.length : Int) == (b.length : Int)) = true := by simp; omega
        have HL := Lib.hid hl
        clear hl ht HP HN hlt
        go_wp2_with fail
        go_loopw [54] (fun i wz => ∃ (k : Nat), k ≤ a.length ∧ i = .int .i64 k ∧ Hid (pTf a b k = V) ∧ Hid (∃ q, wz = w.drewN q)) (fun i _ => a.length - (intOf i).toNat)
        case atStart => exact ⟨0, Nat.zero_le _, rfl, HN2.out, hw.out⟩
        case round =>
          obtain ⟨j, hj, rfl, hu, hv⟩ := hrel
          have hl2 := HL.out
          by_cases hlj : j < a.length
          · have d1 : (j : Int) < (a.length : Int) := by omega
            have d2 : (j : Int) < (b.length : Int) := by omega
            have HX := Lib.hid (pTf_next (a := a) (b := b) (k := j) hlj (by omega))
            obtain ⟨x, o, rfl, _, hcell⟩ := HC.out j hlj
            obtain ⟨x2, o2, rfl, _, hcell2⟩ := HC2.out j (by omega)
            have g1 : wr.cell? ⟨x, o + j * 2 + 1, none⟩ = some (.string (a.getD j default).2) := by rw [drC hv.out]; exact hcell
            have g2 : wr.cell? ⟨x2, o2 + j * 2 + 1, none⟩ = some (.string (b.getD j default).2) := by rw [drC hv.out]; exact hcell2
            clear hcell hcell2 hl2
            generalize (a.getD j default).2 = s at *
            generalize (b.getD j default).2 = t at *
            rcases cT_cases s t with ⟨h, e⟩ | ⟨h, h', e⟩ | ⟨h, h', e⟩
            · have HN : Hid (V = -1) := by
                have h5 := HX.out
                rw [e, if_pos (by decide), hu.out] at h5
                exact h5
              clear e HX hu
              go_wp2_with fail
              go_quiet (fail)
              go_wp2
              rw [HN.out]
              go_ret
              exact ⟨rfl, drN hv.out _⟩
            · have HN : Hid (pTf a b (j + 1) = V) := by
                have h5 := HX.out
                rw [e, if_neg (by simp), hu.out] at h5
                exact h5.symm
              clear e HX hu
              go_wp2_with fail
              go_quiet (fail)
              go_wp2_with fail
              go_quiet (fail)
              go_wp2_with fail
              go_roundw
              case rel => exact ⟨j + 1, by omega, by go_num, HN.out, drN hv.out _⟩
              case measure => simp [intOf]; omega
            · have HN : Hid (V = 1) := by
                have h5 := HX.out
                rw [e, if_pos (by decide), hu.out] at h5
                exact h5
              clear e HX hu
              go_wp2_with fail
              go_quiet (fail)
              go_wp2_with fail
              go_quiet (fail)
              go_wp2
              rw [HN.out]
              go_ret
              exact ⟨rfl, drN (drN hv.out _) _⟩
          · obtain rfl : j = a.length := by omega
            have HN : Hid (V = 0) := hu.out.symm.trans (pTf_end (Or.inl (Nat.le_refl _)))
            clear hl2
            go_wp2
            rw [HN.out]
            go_ret
            exact ⟨rfl, hv.out⟩
      · have HN2 : Hid (V = cI ((b.length : Int) - (a.length : Int)) 0) := by
          have := HN.out
          have e : ¬ cI (b.length : Int) (a.length : Int) = 0 := fun h => by have := (tcI.zero _ _).1 h; omega
          rw [if_pos e] at this
          show _ = _
          rw [cI_sub]
          exact this
        have c0 : ((a.length : Int) == (b.length : Int)) = false := by simp; omega
        have hxx : ¬ (k : Int) < (a.length : Int) ∨ ((k : Int) < (a.length : Int) ∧ ¬ (k : Int) < (b.length : Int)) := by omega
        clear ht HP HN hl
        rcases hxx with e0 | ⟨e0, e1⟩
        all_goals
          go_wp2_with (first | (go_at_call 31; refine (sign22 _ _).mono ?_; rintro e w2 ⟨rfl, hw2⟩; subst hw2))
          rw [HN2.out]
          go_ret
          exact ⟨rfl, hw.out⟩
end Go.Proofs.Ytgiepgbjkkhniaa

namespace Go.Proofs.Ytgiepgbjkkhniaa
open Go.RowKit Go.PlainAid
set_option maxRecDepth 100000
/-- the first one of the first k that have the path -/
def Bst (ls : List (List Sg)) (path : List ByteArray) (k : Nat) (b : Int) : Prop :=
  (b = -1 ∧ ∀ j, j < k → mtB (ls.getD j default) path = false) ∨ ∃ n : Nat, b = (n : Int) ∧ n < k ∧ mtB (ls.getD n default) path = true ∧ ∀ j, j < k → mtB (ls.getD j default) path = true → cW ls n j ≤ 0
def pLs (ls : List (List Sg)) (path : List ByteArray) (b : Int) : List Pr := if b < 0 then [] else mtL (ls.getD b.toNat default) path
theorem cW_lt {ls : List (List Sg)} {i k : Nat} (h : cP (ls.getD i default) (ls.getD k default) < 0) : cW ls i k < 0 := by
  unfold cW
  rw [if_pos (by omega)]
  exact h
theorem cW_ge {ls : List (List Sg)} {n k : Nat} (hn : n < k) (h : ¬ cP (ls.getD k default) (ls.getD n default) < 0) : cW ls n k < 0 := by
  have ha := tcP.anti (ls.getD k default) (ls.getD n default)
  unfold cW
  split
  · omega
  · have := cI_cases (n : Int) (k : Int)
    omega
theorem Bst.skip {ls : List (List Sg)} {path : List ByteArray} {k : Nat} {b : Int} (h : Bst ls path k b) (hf : mtB (ls.getD k default) path = false) : Bst ls path (k + 1) b := by
  rcases h with ⟨h1, h2⟩ | ⟨n, h1, h2, h3, h4⟩
  · refine Or.inl ⟨h1, fun j hj => ?_⟩
    by_cases e : j = k
    · rw [e]; exact hf
    · exact h2 j (by omega)
  · refine Or.inr ⟨n, h1, by omega, h3, fun j hj hm => ?_⟩
    by_cases e : j = k
    · rw [e, hf] at hm; cases hm
    · exact h4 j (by omega) hm
theorem Bst.one {ls : List (List Sg)} {path : List ByteArray} {k : Nat} (h : Bst ls path k (-1)) (hf : mtB (ls.getD k default) path = true) : Bst ls path (k + 1) k := by
  rcases h with ⟨_, h2⟩ | ⟨n, h1, _⟩
  · refine Or.inr ⟨k, rfl, by omega, hf, fun j hj hm => ?_⟩
    by_cases e : j = k
    · rw [e, (tcW ls).refl]; decide
    · rw [h2 j (by omega)] at hm
      cases hm
  · omega
theorem Bst.less {ls : List (List Sg)} {path : List ByteArray} {k n : Nat} (h : Bst ls path k n) (hf : mtB (ls.getD k default) path = true) (hc : cP (ls.getD k default) (ls.getD n default) < 0) : Bst ls path (k + 1) k := by
  rcases h with ⟨h1, _⟩ | ⟨m, h1, h2, h3, h4⟩
  · omega
  · obtain rfl : n = m := by omega
    refine Or.inr ⟨k, rfl, by omega, hf, fun j hj hm => ?_⟩
    by_cases e : j = k
    · rw [e, (tcW ls).refl]; decide
    · have := (tcW ls).lt_of_lt_le (cW_lt hc) (h4 j (by omega) hm)
      omega
theorem Bst.more {ls : List (List Sg)} {path : List ByteArray} {k n : Nat} (h : Bst ls path k n) (hc : ¬ cP (ls.getD k default) (ls.getD n default) < 0) : Bst ls path (k + 1) n := by
  rcases h with ⟨h1, _⟩ | ⟨m, h1, h2, h3, h4⟩
  · omega
  · obtain rfl : n = m := by omega
    refine Or.inr ⟨n, rfl, by omega, h3, fun j hj hm => ?_⟩
    by_cases e : j = k
    · rw [e]
      have := cW_ge h2 hc
      omega
    · exact h4 j (by omega) hm
theorem Bst.al {ls : List (List Sg)} {path : List ByteArray} {b : Int} {al : List Nat} (h : Bst ls path ls.length b) (ha : AllN ls path al) : b = aN al ∧ pLs ls path b = aL ls path al ∧ decide (0 ≤ b) = !al.isEmpty := by
  rcases h with ⟨rfl, h2⟩ | ⟨n, rfl, h2, h3, h4⟩
  · have e : al = [] := by
      rw [List.eq_nil_iff_forall_not_mem]
      intro i hi
      have := (ha.2 i).1 hi
      rw [h2 i this.1] at this
      cases this.2
    subst e
    exact ⟨rfl, rfl, rfl⟩
  · have hn := (ha.2 n).2 ⟨h2, h3⟩
    cases al with
    | nil => cases hn
    | cons i0 al =>
      have hi := (ha.2 i0).1 (by simp)
      have e : n = i0 := by
        rw [List.mem_cons] at hn
        rcases hn with e | hn
        · exact e
        · have h5 := (List.pairwise_cons.1 ha.1).1 n hn
          have h6 := h4 i0 hi.1 hi.2
          have h7 := (tcW ls).anti n i0
          omega
      subst e
      refine ⟨rfl, ?_, ?_⟩
      · show pLs ls path (n : Int) = mtL (ls.getD n default) path
        rw [pLs, if_neg (by omega)]
        rfl
      · simp
theorem ps_nil0 (w : World) : Ps w (.slice none 0 0) [] := ⟨none, 0, rfl, by simp, fun _ => rfl, fun i hi => by simp at hi⟩

set_option maxHeartbeats 3200000 in
theorem refFind14 (v1 v2 : Value) (ls : List (List Sg)) (path : List ByteArray) (w : World) (hg : Gss w v1 ls) (hp : Ss w v2 path) (h12 : ls.length ≤ 12) (hf : Few ls) (hz : ∀ l ∈ ls, ∀ g ∈ l, g.2.size ≤ 9223372036854775807) (hs : ∀ s ∈ path, s.size ≤ 100000000) (hl : path.length ≤ 1000)
    {al : List Nat} (ha : AllN ls path al) :
    Calls Try.prog 14 #[v1, v2] w fun e w' => ∃ v, e = .returned (.tuple #[.int .i64 (aN al), v, .bool (!al.isEmpty)]) ∧ Ps w' v (aL ls path al) ∧ Below w.heap.size w w' := by
  have HG := Lib.hid hg
  have HP := Lib.hid hp
  have HA := Lib.hid ha
  have HZ := Lib.hid hz
  have HS := Lib.hid hs
  obtain ⟨A1, c1, rfl⟩ := box_len hg
  obtain ⟨A2, n2, c2, rfl⟩ := hp.shape
  clear hg hp ha hz hs
  go_enter Try.func14, Try.ntmps14
  go_wp2_with fail
  go_loopw [7, 8, 15] (fun bv pv i wr => ∃ (k : Nat) (b : Int) (A : Option Addr) (n c : Nat), k ≤ ls.length ∧ i = .int .i64 k ∧ bv = .int .i64 b ∧ pv = .slice A n c ∧ Bst ls path k b ∧ Ps wr (.slice A n c) (pLs ls path b) ∧ Below w.heap.size w wr) (fun _ _ i _ => ls.length - (intOf i).toNat)
  case atStart => exact ⟨0, -1, none, 0, 0, Nat.zero_le _, rfl, rfl, rfl, Or.inl ⟨rfl, fun j hj => by omega⟩, ps_nil0 _, Below.refl _ _⟩
  case round =>
    obtain ⟨k, b, A8, n8, c8, hk, rfl, rfl, rfl, hbst, hps, hbw⟩ := hrel
    have HBst := Lib.hid hbst
    have HPs := Lib.hid hps
    have HB := Lib.hid hbw
    clear hps hbw
    by_cases hlt : k < ls.length
    · have d0 : (k : Int) < (ls.length : Int) := by omega
      obtain ⟨A', c', e', _, _, hc⟩ := HG.out
      simp only [Value.slice.injEq] at e'
      obtain ⟨rfl, -, rfl⟩ := e'
      have HC := Lib.hid hc
      obtain ⟨x, o, u, rfl, hcell, hu⟩ := hc k hlt
      have hxl : x < w.heap.size := World.block_lt_of_cell? _ _ hcell
      have g1 : wr.cell? ⟨x, o + k, none⟩ = some u := by rw [HB.out.cell hxl]; exact hcell
      have HU := Lib.hid (hu.call HB.out)
      obtain ⟨Au, nu, cu, rfl⟩ := hu.shape
      clear hcell hu hc
      have XM := Lib.hid (match14 _ _ _ path wr HU.out (HP.out.call HB.out) HS.out hl (HZ.out _ (getD_mem ls k hlt)))
      rcases hm : mtB (ls.getD k default) path with _ | _
      · rw [hm] at XM
        have HN := Lib.hid (HBst.out.skip hm)
        clear hm hbst
        go_wp2_with (first | (go_at_call 16; refine XM.out.mono ?_; rintro e w6 ⟨v6, rfl, hps6, hb6⟩; have B6 := Lib.hid (HB.out.trans (hb6.mono HB.out.size)); have P6 := Lib.hid (HPs.out.call hb6); obtain ⟨A9, n9, c9, hv9⟩ : ∃ A n c, v6 = .slice A n c := (by obtain ⟨A, c, e, _⟩ := hps6; exact ⟨_, _, _, e⟩); subst hv9; clear hps6 hb6))
        go_roundw
        case rel => exact ⟨k + 1, b, A8, n8, c8, by omega, by go_num, rfl, rfl, HN.out, P6.out, B6.out⟩
        case measure => simp [intOf]; omega
      · rw [hm] at XM
        have HMt := Lib.hid hm
        clear hm
        rcases hbst with ⟨rfl, -⟩ | ⟨n, rfl, hn, -⟩
        · have HN := Lib.hid (HBst.out.one HMt.out)
          go_wp2_with (first | (go_at_call 16; refine XM.out.mono ?_; rintro e w6 ⟨v6, rfl, hps6, hb6⟩; have B6 := Lib.hid (HB.out.trans (hb6.mono HB.out.size)); have P6 := Lib.hid hps6; obtain ⟨A9, n9, c9, hv9⟩ : ∃ A n c, v6 = .slice A n c := (by obtain ⟨A, c, e, _⟩ := hps6; exact ⟨_, _, _, e⟩); subst hv9; clear hps6 hb6))
          go_roundw
          case rel =>
            refine ⟨k + 1, k, A9, n9, c9, by omega, by go_num, rfl, rfl, HN.out, ?_, B6.out⟩
            rw [pLs, if_neg (by omega)]
            exact P6.out
          case measure => simp [intOf]; omega
        · obtain ⟨x', o', u', e', hcell', hu'⟩ := HC.out n (by omega)
          cases e'
          obtain ⟨Av, nv, cv, rfl⟩ := hu'.shape
          have HX := Lib.hid hcell'
          have XC := Lib.hid (fun W (hW : Below wr.heap.size wr W) => refCompare12 _ _ _ _ W (HU.out.call hW) (hu'.call (HB.out.trans (hW.mono HB.out.size))) (hf.at k) (hf.at n))
          have HL := Lib.hid (fun hc => HBst.out.less (n := n) HMt.out hc)
          have HR := Lib.hid (fun hc => HBst.out.more (n := n) hc)
          clear hcell' hu'
          generalize cP (ls.getD k default) (ls.getD n default) = r at *
          have d1 : ¬ (n : Int) < 0 := by omega
          have d2 : (n : Int) < (ls.length : Int) := by omega
          have d3 : decide ((n : Int) < 0) = false := by simp
          rcases Int.lt_or_le r 0 with hr | hr
          · have HN := Lib.hid (HL.out hr)
            go_wp2_with (first
              | (go_at_call 16; refine XM.out.mono ?_; rintro e w6 ⟨v6, rfl, hps6, hb6⟩; have B6 := Lib.hid hb6; have P6 := Lib.hid hps6; obtain ⟨A9, n9, c9, hv9⟩ : ∃ A n c, v6 = .slice A n c := (by obtain ⟨A, c, e, _⟩ := hps6; exact ⟨_, _, _, e⟩); subst hv9; have y1 : w6.cell? ⟨x, o + n, none⟩ = some (.slice Av nv cv) := (by rw [(HB.out.trans (hb6.mono HB.out.size)).cell hxl]; exact HX.out); clear hps6 hb6)
              | (go_at_call 17; refine (XC.out _ B6.out).mono ?_; rintro e w7 ⟨rfl, hw7⟩; have D7 := Lib.hid (drB hw7 w6.heap.size); clear hw7))
            go_roundw
            case rel =>
              refine ⟨k + 1, k, A9, n9, c9, by omega, by go_num, rfl, rfl, HN.out, ?_, HB.out.trans ((B6.out.trans (D7.out.mono B6.out.size)).mono HB.out.size)⟩
              rw [pLs, if_neg (by omega)]
              exact P6.out.call D7.out
            case measure => simp [intOf]; omega
          · have hr2 : ¬ r < 0 := by omega
            have HN := Lib.hid (HR.out hr2)
            go_wp2_with (first
              | (go_at_call 16; refine XM.out.mono ?_; rintro e w6 ⟨v6, rfl, hps6, hb6⟩; have B6 := Lib.hid hb6; have P6 := Lib.hid (HPs.out.call hb6); obtain ⟨A9, n9, c9, hv9⟩ : ∃ A n c, v6 = .slice A n c := (by obtain ⟨A, c, e, _⟩ := hps6; exact ⟨_, _, _, e⟩); subst hv9; have y1 : w6.cell? ⟨x, o + n, none⟩ = some (.slice Av nv cv) := (by rw [(HB.out.trans (hb6.mono HB.out.size)).cell hxl]; exact HX.out); clear hps6 hb6)
              | (go_at_call 17; refine (XC.out _ B6.out).mono ?_; rintro e w7 ⟨rfl, hw7⟩; have D7 := Lib.hid (drB hw7 w6.heap.size); clear hw7))
            go_roundw
            case rel => exact ⟨k + 1, n, A8, n8, c8, by omega, by go_num, rfl, rfl, HN.out, P6.out.call D7.out, HB.out.trans ((B6.out.trans (D7.out.mono B6.out.size)).mono HB.out.size)⟩
            case measure => simp [intOf]; omega
    · obtain rfl : k = ls.length := by omega
      obtain ⟨e1, e2, e3⟩ := HBst.out.al HA.out
      have E1 := Lib.hid e1
      have E2 := Lib.hid e2
      have E3 := Lib.hid e3
      clear e1 e2 e3 hbst
      go_wp2_with fail
      go_ret3
      refine ⟨.slice A8 n8 c8, ?_, by rw [← E2.out]; exact HPs.out, HB.out⟩
      rw [← E1.out, ← E3.out]
      rfl
end Go.Proofs.Ytgiepgbjkkhniaa
