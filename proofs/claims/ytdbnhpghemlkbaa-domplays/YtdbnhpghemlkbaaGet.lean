/-
  The contracts of what only reads of a dom: get, Parent, Root, Count.
-/
import Derived.Test.YtdbnhpghemlkbaaMem
import Derived.Lib.Hide
import Derived.Laws.ResultCell
import Derived.StillTailTactics
import Derived.Deep.QuietTactic
import Derived.BigQuiet
namespace Go.Proofs.Ytdbnhpghemlkbaa
open Go.RowKit Go.PlainAid Dm
set_option maxRecDepth 100000

theorem RowI.shape {ro : Ros} {w : World} {v : Value} {l : List Nat} {r : Nat} (h : RowI ro w v l r) : ∃ A c, v = .slice A l.length c ∧ l.length ≤ c ∧ c ≤ maxLen := by
  rcases h.1.2 with ⟨rfl, h1⟩ | ⟨g, cap, cur, rfl, _, _, h4, h5, _⟩
  · exact ⟨none, 0, by rw [h1], by omega, by unfold maxLen; omega⟩
  · exact ⟨_, _, rfl, h4, h5⟩
theorem Ats.shape {ro : Ros} {w : World} {v : Value} {l : List (Tx × Tx)} (h : Ats ro w v l) : ∃ A c, v = .slice A l.length c ∧ l.length ≤ c ∧ c ≤ maxLen := by
  rcases h.1.2 with ⟨rfl, h1⟩ | ⟨g, cap, cur, rfl, _, _, h4, h5, _⟩
  · exact ⟨none, 0, by rw [h1], by omega, by unfold maxLen; omega⟩
  · exact ⟨_, _, rfl, h4, h5⟩

def nodeZ (t : TypeId) (f : Value) : Obj := .cells #[f, .string ⟨#[]⟩, .string ⟨#[]⟩, .string ⟨#[]⟩, .slice none 0 0, .int .i64 0, .slice none 0 0] t (0, 0)
/-- a block of seven cells stored whole -/
theorem set7 (w : World) (T : Nat) (t : TypeId) {cs : Array Value} (u0 u1 u2 u3 u4 u5 u6 : Value) (hT : w.heap[T]? = some (.cells cs t (0, 0))) (hz : cs.size = 7) :
    (((((((w.setCell ⟨T, 0, none⟩ u0).setCell ⟨T, 1, none⟩ u1).setCell ⟨T, 2, none⟩ u2).setCell ⟨T, 3, none⟩ u3).setCell ⟨T, 4, none⟩ u4).setCell ⟨T, 5, none⟩ u5).setCell ⟨T, 6, none⟩ u6).heap[T]? = some (.cells #[u0, u1, u2, u3, u4, u5, u6] t (0, 0)) ∧
    Kp (fun i => i = T) w (((((((w.setCell ⟨T, 0, none⟩ u0).setCell ⟨T, 1, none⟩ u1).setCell ⟨T, 2, none⟩ u2).setCell ⟨T, 3, none⟩ u3).setCell ⟨T, 4, none⟩ u4).setCell ⟨T, 5, none⟩ u5).setCell ⟨T, 6, none⟩ u6) := by
  refine ⟨?_, ((((((((Kp.refl (fun i => i = T) w).setCell (p := ⟨T, 0, none⟩) (fun _ => rfl) _).setCell (p := ⟨T, 1, none⟩) (fun _ => rfl) _).setCell (p := ⟨T, 2, none⟩) (fun _ => rfl) _).setCell (p := ⟨T, 3, none⟩) (fun _ => rfl) _).setCell (p := ⟨T, 4, none⟩) (fun _ => rfl) _).setCell (p := ⟨T, 5, none⟩) (fun _ => rfl) _).setCell (p := ⟨T, 6, none⟩) (fun _ => rfl) _)⟩
  rw [blk_setCell (blk_setCell (blk_setCell (blk_setCell (blk_setCell (blk_setCell (blk_setCell hT 0 _) 1 _) 2 _) 3 _) 4 _) 5 _) 6 _]
  obtain ⟨x0, x1, x2, x3, x4, x5, x6, rfl⟩ : ∃ x0 x1 x2 x3 x4 x5 x6, cs = #[x0, x1, x2, x3, x4, x5, x6] := by
    obtain ⟨l⟩ := cs
    match l, hz with
    | [a, b, c, d, e, f, g], _ => exact ⟨a, b, c, d, e, f, g, rfl⟩
  rfl
theorem get_end {w3 : World} {T : Nat} {tmps : Array Value} {u0 u1 u2 u3 u4 u5 u6 : Value} {Q : Ending → World → Prop} (ht : tmps.getD 4 undef = .pointer (some ⟨T, 0, none⟩)) (hT : w3.heap[T]? = some (.cells #[u0, u1, u2, u3, u4, u5, u6] 60 (0, 0))) (hq : Q (.returned (.agg #[u0, u1, u2, u3, u4, u5, u6])) w3) :
    bodyPost Try.prog Try.f34 Q .ret { tmps := tmps, defers := [] } w3 :=
  bodyPost_ret (v := .agg #[u0, u1, u2, u3, u4, u5, u6]) (results_cell_row (P := Try.prog) rfl _ _ T 60 _ (0, 0) _ ht hT Try.underlying60 rfl (by kernel_rfl)) rfl hq
section
variable {ro : Ros} {w : World} {D N c : Nat} {fv : Value} {av kv : Nat → Value} {s : St}
/-- what get answers -/
def GetP (ro : Ros) (n : Nd) (i : Nat) (w : World) (e : Ending) (w' : World) : Prop := ∃ av kv, e = .returned (.agg #[.int .i64 (kindI n), .string n.tag, .string n.key, .string n.text, av, .int .i64 n.par, kv]) ∧ Ats ro w' av n.attrs ∧ RowI ro w' kv n.kids (5 + i) ∧ Below w.heap.size w w'

set_option maxHeartbeats 1600000 in
theorem get34_in (i : Nat) (w : World) (h : Rel mP ro w D N c fv av kv s) (hi : i ≤ s.top) :
    Calls Try.prog 34 #[.pointer (some ⟨D, 0, none⟩), .int .i64 i] w (GetP ro (s.nd i) i w) := by
  have h1 := h.alloc (nodeZ 60 (.int .i64 0))
  unfold nodeZ at h1
  obtain ⟨A, a, e1, _, _⟩ := (h.ats i hi).shape
  obtain ⟨K, k, e2, _, _⟩ := (h.ki i hi).shape
  have hf := h.alloc (.cells #[.int .i64 (kindI (s.nd i)), .string (s.nd i).tag, .string (s.nd i).key, .string (s.nd i).text, .slice A (s.nd i).attrs.length a, .int .i64 (s.nd i).par, .slice K (s.nd i).kids.length k] 60 (0, 0))
  have HA := hf.ats i hi
  have HK := hf.ki i hi
  rw [e1] at HA
  rw [e2] at HK
  have FI := Lib.hid (fun (tmps : Array Value) (ht : tmps.getD 4 undef = .pointer (some ⟨w.heap.size, 0, none⟩)) => get_end (Q := GetP ro (s.nd i) i w) ht (blk_new w _) ⟨_, _, rfl, HA, HK, (Below.refl _ w).alloc (Nat.le_refl _) _⟩)
  clear HA HK hf
  have c0 := h1.c0
  obtain ⟨n0, n1, n2, n3, n4, n5, n6⟩ := h1.nc hi
  rw [e1] at n4
  rw [e2] at n6
  replace n0 : _ = some (Value.int .i64 (kindI (s.nd i))) := n0
  have hc := h.cap
  clear h h1 e1 e2
  go_enter Try.func34, Try.ntmps34
  go_wp2_with fail
  exact FI.out _ rfl

set_option maxHeartbeats 1600000 in
theorem get34_out (i : Int) (w : World) (h : Rel mP ro w D N c fv av kv s) (hi : i < 0 ∨ (s.top : Int) < i) :
    Calls Try.prog 34 #[.pointer (some ⟨D, 0, none⟩), .int .i64 i] w (GetP ro nd0 i.toNat w) := by
  have h1 := h.alloc (nodeZ 60 (.int .i64 0))
  unfold nodeZ at h1
  have c0 := h1.c0
  have hc := h.cap
  clear h h1
  have FI := Lib.hid (fun (tmps : Array Value) (ht : tmps.getD 4 undef = .pointer (some ⟨w.heap.size, 0, none⟩)) => get_end (Q := GetP ro nd0 i.toNat w) ht (blk_new w (nodeZ 60 (.int .i64 0))) ⟨_, _, rfl, ats_nil _ _, rowI_nil _ _ _, (Below.refl _ w).alloc (Nat.le_refl _) _⟩)
  unfold nodeZ at FI
  rcases Int.lt_or_le i 0 with hneg | hpos
  · clear hi
    have d1 : decide (i < 0) = true := decide_eq_true hneg
    go_enter Try.func34, Try.ntmps34
    go_wp2_with fail
    exact FI.out _ rfl
  · have d1 : decide (i < 0) = false := decide_eq_false (by omega)
    have d2 : (s.top : Int) + 1 ≤ i := by omega
    clear hi
    go_enter Try.func34, Try.ntmps34
    go_wp2_with fail
    exact FI.out _ rfl
end
@[go_sem] theorem field60_0 (x0 x5 : Int) (x1 x2 x3 : ByteArray) (A1 : Option Addr) (n1 c1 : Nat) (A2 : Option Addr) (n2 c2 : Nat) (w : World) : (Instr.field 60 (.agg #[.int .i64 x0, .string x1, .string x2, .string x3, .slice A1 n1 c1, .int .i64 x5, .slice A2 n2 c2]) 0).run Try.prog w = .ok (.int .i64 x0) w := by kernel_rfl
@[go_sem] theorem field60_5 (x0 x5 : Int) (x1 x2 x3 : ByteArray) (A1 : Option Addr) (n1 c1 : Nat) (A2 : Option Addr) (n2 c2 : Nat) (w : World) : (Instr.field 60 (.agg #[.int .i64 x0, .string x1, .string x2, .string x3, .slice A1 n1 c1, .int .i64 x5, .slice A2 n2 c2]) 5).run Try.prog w = .ok (.int .i64 x5) w := by kernel_rfl
@[go_sem] theorem field60_6 (x0 x5 : Int) (x1 x2 x3 : ByteArray) (A1 : Option Addr) (n1 c1 : Nat) (A2 : Option Addr) (n2 c2 : Nat) (w : World) : (Instr.field 60 (.agg #[.int .i64 x0, .string x1, .string x2, .string x3, .slice A1 n1 c1, .int .i64 x5, .slice A2 n2 c2]) 6).run Try.prog w = .ok (.slice A2 n2 c2) w := by kernel_rfl
/-- the node of any number -/
def ndI (s : St) (i : Int) : Nd := if i < 0 then nd0 else s.nd i.toNat
section
variable {ro : Ros} {D : Nat} {s : St}
theorem get34 (i : Int) (w : World) (h : Dom mP ro w D s) (hv : Inv s) :
    Calls Try.prog 34 #[.pointer (some ⟨D, 0, none⟩), .int .i64 i] w (GetP ro (ndI s i) i.toNat w) := by
  obtain ⟨N, c, fv, av, kv, h⟩ := h
  by_cases hi : i < 0 ∨ (s.top : Int) < i
  · have e : ndI s i = nd0 := by
      unfold ndI
      split
      · rfl
      · exact hv.high _ (by omega)
    rw [e]
    exact get34_out i w h hi
  · obtain ⟨k, rfl⟩ : ∃ k : Nat, i = k := ⟨i.toNat, by omega⟩
    have e : ndI s (k : Int) = s.nd k := by
      unfold ndI
      rw [if_neg (by omega), Int.toNat_natCast]
    rw [e, Int.toNat_natCast]
    exact get34_in k w h (by omega)
end

section
variable {ro : Ros} {D : Nat} {s : St}
set_option maxHeartbeats 1600000 in
theorem root11 (v : Value) (w : World) : Calls Try.prog 11 #[v] w fun e w' => e = .returned (.int .i64 1) ∧ w = w' := by
  go_enter Try.func11, Try.ntmps11
  go_wp2
  go_ret
  exact ⟨rfl, rfl⟩

set_option maxHeartbeats 1600000 in
theorem parent30 (i : Int) (w : World) (h : Dom mP ro w D s) (hv : Inv s) :
    Calls Try.prog 30 #[.pointer (some ⟨D, 0, none⟩), .int .i64 i] w fun e w' => e = .returned (.int .i64 (ndI s i).par) ∧ Below w.heap.size w w' := by
  go_enter Try.func30, Try.ntmps30
  go_wp2_with fail
  refine (get34 i w h hv).mono ?_
  rintro e w' ⟨av, kv, rfl, ha, hk, hb⟩
  obtain ⟨A, a, rfl, _, _⟩ := ha.shape
  obtain ⟨K, k, rfl, _, _⟩ := hk.shape
  clear ha hk
  go_wp2
  go_ret
  exact ⟨rfl, hb⟩

set_option maxHeartbeats 1600000 in
theorem count16 (w : World) (h : Dom mP ro w D s) (hz : s.top ≤ 1000000) (hf : s.freed.length ≤ 1000000) :
    Calls Try.prog 16 #[.pointer (some ⟨D, 0, none⟩)] w fun e w' => e = .returned (.int .i64 ((s.top : Int) - s.freed.length)) ∧ Below w.heap.size w w' := by
  obtain ⟨N, c, fv, av, kv, h⟩ := h
  obtain ⟨F, f, e1, _, _⟩ := h.fr.shape
  rw [List.length_reverse] at e1
  have c0 := h.c0
  have c1 := h.c1
  rw [e1] at c1
  clear h e1
  go_enter Try.func16, Try.ntmps16
  go_wp2_with fail
  go_quiet (fail)
  go_wp2
  go_ret
  exact ⟨rfl, ⟨rfl, rfl, rfl, Nat.le_refl _, fun _ _ => rfl⟩⟩
end
end Go.Proofs.Ytdbnhpghemlkbaa
