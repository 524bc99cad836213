/-
  The reference's word and value; a map of texts to true that the call makes (a set).
-/
import Derived.Test.YtgiepgbjkkhniaaRgt
import Derived.Test.YtgiepgbjkkhniaaSame
import Derived.Maps.OwnOps
import Derived.Maps.Views
namespace Go.Proofs.Ytgiepgbjkkhniaa
open Go.RowKit Go.PlainAid Go.Maps

set_option maxHeartbeats 1600000 in
theorem word39 (s : ByteArray) (w : World) (hs : s.size ≤ 9223372036854775807) : Calls Try.prog 29 #[.string s] w fun e w' => e = .returned (.bool (txB s)) ∧ w' = w := by
  have gb := get_bt s
  go_enter Try.func29, Try.ntmps29
  go_wp2_with fail
  go_loopw [3] (fun i wr => ∃ k : Nat, k ≤ s.size ∧ i = .int .i64 k ∧ ((bs s).take k).all lc = true ∧ wr = w) (fun i _ => s.size - (intOf i).toNat)
  case atStart => exact ⟨0, Nat.zero_le _, rfl, by simp, rfl⟩
  case round =>
    obtain ⟨k, hk, rfl, hall, rfl⟩ := hrel
    have HA := Lib.hid hall
    clear hall
    by_cases hlt : k < s.size
    · have c0 : (k : Int) < (s.size : Int) := by omega
      have HL := Lib.hid (lc_next s k hlt)
      have HN := Lib.hid (lc_not s k hlt)
      by_cases hp : lc (bt s k) = true
      · have HP := Lib.hid hp
        have hp : (97 ≤ bt s k ∧ bt s k ≤ 122) ∨ (48 ≤ bt s k ∧ bt s k ≤ 57) := of_decide_eq_true hp
        rcases hp with ⟨p1, p2⟩ | ⟨p1, p2⟩
        all_goals
          go_wp2_with fail
          all_goals
            go_roundw
            case rel => exact ⟨k + 1, by omega, by go_num, by rw [HL.out, HA.out, HP.out]; rfl, trivial⟩
            case measure => simp [intOf]; omega
      · have hp : lc (bt s k) = false := by simpa using hp
        have E1 : Hid (txB s = false) := by show _ = _; rw [txB, HN.out hp, Bool.and_false]
        have hp : ¬ ((97 ≤ bt s k ∧ bt s k ≤ 122) ∨ (48 ≤ bt s k ∧ bt s k ≤ 57)) := of_decide_eq_false hp
        have : (bt s k < 48) ∨ (57 < bt s k ∧ bt s k < 97) ∨ (122 < bt s k) := by omega
        clear hp
        rcases this with p1 | ⟨p1, p2⟩ | p1
        all_goals
          go_wp2
          all_goals
            rw [E1.out]
            go_ret
            exact ⟨rfl, rfl⟩
    · obtain rfl : k = s.size := by omega
      have E0 : Hid (txB s = decide (1 ≤ s.size ∧ s.size ≤ 16)) := by
        show _ = _
        have := HA.out
        rw [List.take_of_length_le (by rw [bs_len]; omega)] at this
        rw [txB, this, Bool.and_true]
      by_cases h1 : 1 ≤ s.size
      · by_cases h2 : s.size ≤ 16
        · have c1 : (1 : Int) ≤ (s.size : Int) := by omega
          have c2 : (s.size : Int) ≤ 16 := by omega
          have E1 : Hid (txB s = true) := by show _ = _; rw [E0.out]; exact decide_eq_true ⟨h1, h2⟩
          go_wp2
          rw [E1.out]
          go_ret
          exact ⟨rfl, rfl⟩
        · have c1 : (1 : Int) ≤ (s.size : Int) := by omega
          have c2 : ¬ (s.size : Int) ≤ 16 := by omega
          have E1 : Hid (txB s = false) := by show _ = _; rw [E0.out]; exact decide_eq_false (fun h => h2 h.2)
          go_wp2
          rw [E1.out]
          go_ret
          exact ⟨rfl, rfl⟩
      · have c1 : ¬ (1 : Int) ≤ (s.size : Int) := by omega
        have E1 : Hid (txB s = false) := by show _ = _; rw [E0.out]; exact decide_eq_false (fun h => h1 h.1)
        go_wp2
        rw [E1.out]
        go_ret
        exact ⟨rfl, rfl⟩

theorem law9 : Keyed Try.prog 9 := string_keyed Try.underlying9
theorem zero4 (w : World) : (zeroValue 4).run Try.prog w = .ok (.bool false) w := by kernel_rfl
theorem plainElem_bool_inv {H : Type} {P : Program} {e : TypeId} (he : P.underlying e = some .bool) {v : Value} {z : DataW H × List MemPlace} (h : plainElem P e v = some z) : ∃ x, v = .bool x ∧ z = (.lit (.bool x), []) := by
  unfold plainElem at h
  rw [he] at h
  cases v <;> simp at h
  exact ⟨_, rfl, h.symm⟩
def inB (N : List ByteArray) (s : ByteArray) : Bool := N.any (fun t => decide (t = s))
/-- block b is a map of texts to true: those of N -/
def SetM (b n : Nat) (N : List ByteArray) (w : World) : Prop :=
  ∃ D : DataW Unit, w.ownsMap Try.prog 9 (plainElem Try.prog 4) b n D ∧ (∃ es, D = .map es) ∧ ∀ s : ByteArray, s.size ≤ maxLen → D.atKey (.string s.data.toList) (.lit (.bool false)) = .lit (.bool (inB N s))
theorem setM_new (w : World) : SetM w.heap.size 0 [] (w.alloc (.map #[] 0)) :=
  ⟨.map [], World.ownsMap_made _ _ _ _, ⟨_, rfl⟩, fun _ _ => rfl⟩
theorem SetM.alloc {b n : Nat} {N : List ByteArray} {w : World} (h : SetM b n N w) (o : Obj) : SetM b n N (w.alloc o) := by
  obtain ⟨D, h1, h2⟩ := h
  exact ⟨D, h1.alloc o, h2⟩
theorem SetM.lt {b n : Nat} {N : List ByteArray} {w : World} (h : SetM b n N w) : b < w.heap.size := by
  obtain ⟨D, h1, h2⟩ := h
  exact h1.lt
set_option maxRecDepth 100000 in
theorem wpList_setLook {ops : Array Oper} {rest : List Oper} {o : Oper} {a : Act} {Q : Exit → Act → World → Prop} (w : World) (hg : o.guard = none) (m x : Operand) (hop : o.op = Op.lookup 74 m x false)
    (b n : Nat) (N : List ByteArray) (hm : a.eval m = .map (some b)) (h : SetM b n N w) (s : ByteArray) (hx : a.eval x = .string s) (hs : s.size ≤ maxLen)
    (hK : wpList Try.prog ops Q rest (a.put o.dst (.bool (inB N s))) w) : wpList Try.prog ops Q (o :: rest) a w := by
  refine wpList_plain hg fun K' hK' => ?_
  obtain ⟨D, h1, _, h3⟩ := h
  obtain ⟨v, ps, hrun, hv⟩ := h1.lookup law9 Try.underlying74 (zero4 w) (plainElem_bool Try.underlying4 false) (WideMaps.keyOf_string_mk Try.underlying9 hs)
  obtain ⟨c, rfl, hc⟩ := plainElem_bool_inv Try.underlying4 hv
  rw [h3 s hs] at hc
  have hc : inB N s = c := by simp at hc; exact hc.1
  subst hc
  unfold Oper.wp
  simp [execOp, hop, hm, hx, hrun, Result.andThen]
  exact hK' _ _ hK
set_option maxRecDepth 100000 in
theorem wpList_setPut {ops : Array Oper} {rest : List Oper} {o : Oper} {a : Act} {Q : Exit → Act → World → Prop} (w : World) (hg : o.guard = none) (m x v : Operand) (hop : o.op = Op.mapUpdate 74 m x v)
    (b n : Nat) (N : List ByteArray) (hm : a.eval m = .map (some b)) (h : SetM b n N w) (s : ByteArray) (hx : a.eval x = .string s) (hs : s.size ≤ maxLen) (hv : a.eval v = .bool true) (hn : n < maxLen)
    (hK : ∀ w', SetM b (n + 1) (s :: N) w' → w.grownBy w' (some b) → wpList Try.prog ops Q rest (a.put o.dst undef) w') : wpList Try.prog ops Q (o :: rest) a w := by
  obtain ⟨D, h1, h2, h3⟩ := h
  refine wpList_mapUpdate_own w hg m x v 74 hop 9 4 law9 Try.underlying74 _ b n D hm h1 hn (.string s) (.bool true) _ hx hv (WideMaps.keyOf_string_mk Try.underlying9 hs) _ [] (plainElem_bool Try.underlying4 true) ?_
  intro w' h4 h5
  refine hK w' ⟨_, h4, ?_, fun t ht => ?_⟩ h5
  · obtain ⟨es, rfl⟩ := h2
    exact ⟨_, rfl⟩
  · by_cases e : t = s
    · subst e
      rw [atKey_put_same h2 (by trivial)]
      simp [inB]
    · rw [atKey_put_other (by intro he; apply e; cases t; cases s; simp at he; simp_all), h3 t ht]
      have e' : ¬ s = t := fun h => e h.symm
      simp [inB, e']
end Go.Proofs.Ytgiepgbjkkhniaa
