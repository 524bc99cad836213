/-
  Slices of numbers that the call makes; porticobook.Same at numbers.
-/
import Derived.Test.YtnnmbpghkflepaaGreatDoorSrd
namespace Go.Proofs.YtnnmbpghkflepaaGreatDoor
open Go.RowKit Go.PlainAid
set_option maxRecDepth 100000

def niC (ns : List Nat) : List Value := ns.map (fun x : Nat => Value.int .i64 (x : Int))
def OwnI (B : Nat) (w0 : World) (v : Value) (ns : List Nat) (w : World) : Prop :=
  w.ownsRow B 3 1 v ns.length (niC ns) ∧ Below B w0 w ∧ B ≤ w.heap.size
section
variable {B : Nat} {w0 : World} {v : Value} {w : World} {ns : List Nat}
theorem OwnI.alloc (h : OwnI B w0 v ns w) (o : Obj) : OwnI B w0 v ns (w.alloc o) := ⟨h.1.alloc o, h.2.1.alloc h.2.2 o, by have := h.2.2; simp; omega⟩
theorem OwnI.call {w' : World} (h : OwnI B w0 v ns w) (hb : Below w.heap.size w w') : OwnI B w0 v ns w' :=
  ⟨owns_call h.1 hb, h.2.1.trans (hb.mono h.2.2), by have := hb.size; have := h.2.2; omega⟩
theorem nilI (B : Nat) (w0 w : World) (hb : Below B w0 w) (hB : B ≤ w.heap.size) : OwnI B w0 (.slice none 0 0) [] w := ⟨World.ownsRow_nil _ _ _ _, hb, hB⟩
theorem OwnI.ni (h : OwnI B w0 v ns w) : Ni w v ns := by
  have hc := @World.ownsRow.cells _ _ _ _ _ _ _ h.1
  obtain ⟨hl, ⟨rfl, h1⟩ | ⟨g, cap, cur, rfl, _, _, h4, _⟩⟩ := h.1
  · obtain rfl : ns = [] := List.eq_nil_of_length_eq_zero h1
    exact ⟨none, 0, rfl, by simp, fun _ => rfl, fun i hi => by simp at hi⟩
  · refine ⟨some ⟨g, 0, none⟩, cap, rfl, h4, (fun h => by cases h), fun i hi => ⟨g, 0, rfl, ?_⟩⟩
    have := hc rfl i (.int .i64 (ns.getD i 0 : Nat)) (by simp [niC, List.getD, hi])
    rw [add_lit'] at this
    exact this
theorem wpList_appI {ops : Array Oper} {rest : List Oper} {o : Oper} {a : Act} {Q : Exit → Act → World → Prop} (hgd : o.guard = none) (s x : Operand)
    (ho : o.op = .call { callee := .builtin .append, args := #[s, x], argTypes := #[23, 23] })
    (hs : a.eval s = v) (hown : OwnI B w0 v ns w) (hn : ns.length ≤ 1000)
    (b y : Nat) (hx : a.eval x = .slice (some ⟨b, 0, none⟩) 1 1) (hb : w.heap[b]? = some (.cells #[.int .i64 (y : Int)] 3 (0, 0)))
    (h : ∀ v' w', OwnI B w0 v' (ns ++ [y]) w' → w.grownBy w' v.ownBlock → wpList Tryz.prog ops Q rest (a.put o.dst v') w') : wpList Tryz.prog ops Q (o :: rest) a w := by
  refine wpList_plain hgd fun K hK => ?_
  obtain ⟨i0, hi, hz0, hz1, hz2⟩ := info_parts info3
  have hr := run_append_own_at (P := Tryz.prog) w B 23 o.type 3 i0 (.int .i64 0) 1 8 Tryz.underlying23 hi hz0 hz1 hz2 rfl (by omega) v ns.length _ hown.1 ⟨b, 0, none⟩ 1 1 [.int .i64 (y : Int)] rfl (World.news_of_block hb) (by intro u hu; simp at hu; subst hu; rfl) (by unfold maxLen; omega) (by omega) hown.2.2
  obtain ⟨v', w', hr, h2, h3, _, h5⟩ := hr
  unfold Oper.wp execOp
  simp only [ho, resolve, invoke, builtin, Sem.run_bind, Sem.run_pure, Result.andThen_ok, List.map_toArray, List.map_cons, List.map_nil, hs, hx, hr]
  refine hK _ _ (h v' w' ⟨?_, hown.2.1.grown h3 hown.2.2 (fun k hk => (hown.1.lt k hk).1), by have := h3.size; have := hown.2.2; omega⟩ h3)
  have e : niC (ns ++ [y]) = niC ns ++ [.int .i64 (y : Int)] := by simp [niC]
  rw [List.length_append, e]
  exact h2
end

theorem nat_at {a b : List Nat} {k : Nat} (h : a.take k = b.take k) (h1 : k < a.length) (h2 : k < b.length) (he : a.getD k 0 = b.getD k 0) : a.take (k + 1) = b.take (k + 1) := by
  rw [List.take_add_one, List.take_add_one, h]
  simp only [List.getD, List.getElem?_eq_getElem h1, List.getElem?_eq_getElem h2, Option.getD_some] at he
  rw [List.getElem?_eq_getElem h1, List.getElem?_eq_getElem h2, he]

set_option maxHeartbeats 1600000 in
theorem sameI16 (v1 v2 : Value) (a b : List Nat) (w : World) (h1 : Ni w v1 a) (h2 : Ni w v2 b) (hz : a.length ≤ 1000) (_ : b.length ≤ 1000) :
    Calls Tryz.prog 23 #[v1, v2] w fun e w' => e = .returned (.bool (decide (a = b))) ∧ ∃ q, w' = w.drewN q := by
  obtain ⟨A, cap, rfl, _, _, hc⟩ := h1
  obtain ⟨A2, cap2, rfl, _, _, hc2⟩ := h2
  have HC := Lib.hid hc
  have HC2 := Lib.hid hc2
  clear hc hc2
  by_cases hl : a.length = b.length
  · have HL := Lib.hid hl
    have c0 : ((a.length : Int) == (b.length : Int)) = true := by simp; omega
    clear hl
    go_enter Tryz.func23, Tryz.ntmps23
    go_wp2_with fail
    (try rw [c0])
    clear c0
    go_loopw [5] (fun i wr => ∃ (k : Nat), k ≤ a.length ∧ i = .int .i64 k ∧ Hid (a.take k = b.take k) ∧ Hid (∃ q, wr = w.drewN q)) (fun i _ => a.length - (intOf i).toNat)
    case atStart => exact ⟨0, Nat.zero_le _, rfl, rfl, 0, rfl⟩
    case round =>
      obtain ⟨k, hk, rfl, HT, HW⟩ := hrel
      have hl2 := HL.out
      by_cases hlt : k < a.length
      · have d0 : (k : Int) < (a.length : Int) := by omega
        have d1 : (k : Int) < (b.length : Int) := by omega
        have HX := Lib.hid (nat_at HT.out hlt (by omega))
        have HY : Hid (¬ a.getD k 0 = b.getD k 0 → ¬ a = b) := fun h e => h (by rw [e])
        obtain ⟨x, o, rfl, hcell⟩ := HC.out k hlt
        obtain ⟨x2, o2, rfl, hcell2⟩ := HC2.out k (by omega)
        have g1 : wr.cell? ⟨x, o + k, none⟩ = some (.int .i64 (a.getD k 0 : Nat)) := by rw [drC HW.out]; exact hcell
        have g2 : wr.cell? ⟨x2, o2 + k, none⟩ = some (.int .i64 (b.getD k 0 : Nat)) := by rw [drC HW.out]; exact hcell2
        clear hcell hcell2 hl2
        generalize a.getD k 0 = s at *
        generalize b.getD k 0 = t at *
        by_cases hst : s = t
        · have q1 : ((s : Int) == (t : Int)) = true := by simp [hst]
          have HST := Lib.hid hst
          clear hst
          go_wp2_with fail
          go_quiet (fail)
          go_wp2_with fail
          go_roundw
          case rel => exact ⟨k + 1, by omega, by go_num, HX.out HST.out, drN HW.out _⟩
          case measure => simp [intOf]; omega
        · have q1 : ((s : Int) == (t : Int)) = false := by simp; omega
          have E0 : Hid (decide (a = b) = false) := decide_eq_false (HY.out hst)
          clear hst HX HY
          go_wp2_with fail
          go_quiet (fail)
          go_wp2
          rw [E0.out]
          go_ret
          exact ⟨rfl, drN HW.out _⟩
      · obtain rfl : k = a.length := by omega
        have E0 : Hid (decide (a = b) = true) := by
          have := HT.out
          rw [List.take_length, hl2, List.take_length] at this
          exact decide_eq_true this
        clear hl2
        go_wp2
        rw [E0.out]
        go_ret
        exact ⟨rfl, HW.out⟩
  · have c0 : ¬ (a.length : Int) = (b.length : Int) := by omega
    have c1 : ((a.length : Int) == (b.length : Int)) = false := by simpa using c0
    have E0 : Hid (decide (a = b) = false) := decide_eq_false (fun h => hl (by rw [h]))
    go_enter Tryz.func23, Tryz.ntmps23
    go_wp2
    rw [E0.out]
    go_ret
    exact ⟨rfl, 0, rfl⟩
end Go.Proofs.YtnnmbpghkflepaaGreatDoor
