/-
  Package trap's contracts over the translation: Throw, Must, faultOf, Run (f comes back; f throws a Fault; f is nil), and chapter 2's runs walked.
-/
import Derived.Test.YtnbkgpkgfolakaaRows
import Derived.Test.YtnbkgpkgfolakaaKp
import Derived.WalkKit
import Derived.Defers
import Derived.Recover
import Derived.WalkLawsBesides
import Derived.Lib.Hide
namespace Go.Proofs.Ytnbkgpkgfolakaa
open Go.RowKit

theorem run_assert_fault (v : Value) (xT : TypeId) (w : World) : (Instr.typeAssert (.iface 24 v) xT 24 true).run Try.prog w = .ok (.tuple #[v, .bool true]) w := by
  simp [Instr.typeAssert, run_underlying Try.underlying24, go_sem, Result.andThen]

/-- a Fault -/
def flt (er : Int) (note : ByteArray) (at_ : Int) : Value := .agg #[.int .i64 er, .string note, .int .i64 at_]
/-- what is thrown -/
def thr (er : Int) (note : ByteArray) (at_ : Int) : List PanicEntry := [{ v := .iface 24 (.agg #[.int .i64 er, .string note, .int .i64 at_]), recovered := false }]

set_option maxHeartbeats 400000 in
theorem throw_any (er at_ : Int) (note : ByteArray) (w : World) :
    Calls Try.prog 9 #[.int .i64 er, .string note, .int .i64 at_] w fun e w' => e = .panicked (thr er note at_) ∧ w = w' := by
  go_enter Try.func9, Try.ntmps9
  go_wp2
  exact ⟨rfl, rfl, rfl⟩

set_option maxHeartbeats 400000 in
theorem must_yes (er at_ : Int) (note : ByteArray) (w : World) :
    Calls Try.prog 11 #[.bool true, .int .i64 er, .string note, .int .i64 at_] w fun e w' => e = .returned (.tuple #[]) ∧ w = w' := by
  go_enter Try.func11, Try.ntmps11
  go_wp2
  go_end0
  exact ⟨rfl, rfl⟩

set_option maxHeartbeats 400000 in
theorem must_no (er at_ : Int) (note : ByteArray) (w : World) :
    Calls Try.prog 11 #[.bool false, .int .i64 er, .string note, .int .i64 at_] w fun e w' => e = .panicked (thr er note at_) ∧ w = w' := by
  go_enter Try.func11, Try.ntmps11
  go_wp2_with (go_at_call 9; refine (throw_any _ _ _ _).mono ?_; rintro e w' ⟨rfl, rfl⟩)
  exact ⟨rfl, rfl, rfl⟩

set_option maxHeartbeats 400000 in
theorem faultOf_any (er at_ : Int) (note : ByteArray) (w : World) :
    Calls Try.prog 22 #[.iface 24 (.agg #[.int .i64 er, .string note, .int .i64 at_])] w fun e w' => e = .returned (.agg #[.int .i64 er, .string note, .int .i64 at_]) ∧ w' = (w.alloc (.cells #[.int .i64 er, .string note, .int .i64 at_] 24)).alloc (.cells #[.int .i64 er, .string note, .int .i64 at_] 24) := by
  have ha := run_assert_fault
  go_enter Try.func22, Try.ntmps22
  go_wp2
  exact bodyPost_ret (v := .agg #[.int .i64 er, .string note, .int .i64 at_]) (by simp [results, Try.results22, go_sem]) rfl ⟨rfl, rfl⟩

/-- the two variables that Run makes -/
def w2 (w : World) : World := (w.alloc (.cells #[.int .i64 0, .string ⟨#[]⟩, .int .i64 0] 24)).alloc (.cells #[.bool false] 4)

set_option maxHeartbeats 400000 in
theorem run_nil (w : World) :
    Calls Try.prog 7 #[.nilFunc] w fun e w' => e = .returned (.tuple #[.agg #[.int .i64 0, .string ⟨#[]⟩, .int .i64 0], .bool true]) ∧ Below w.heap.size w w' := by
  have hnil : ∀ w : World, (binOp BinOp.eql 1 .nilFunc .nilFunc).run Try.prog w = .ok (.bool true) w := fun _ => by kernel_rfl
  go_enter_defers Try.func7, Try.ntmps7
  go_wp2
  have hb : Below w.heap.size w ((w.alloc (.cells #[.int .i64 0, .string ⟨#[]⟩, .int .i64 0] 24)).alloc (.cells #[.bool true] 4)) := ((Below.refl _ _).alloc (Nat.le_refl _) _).alloc (by simp) _
  simp [bodyPostD, Leaves, results, Try.results7, go_sem]
  exact hb

theorem eql_func (g : Nat) (caps : Array Value) (w : World) : (binOp BinOp.eql 1 (.func (.func g) #[] caps) .nilFunc).run Try.prog w = .ok (.bool false) w := by
  kernel_rfl

set_option maxHeartbeats 400000 in
theorem catch_panicking (b c : Nat) (x y z : Value) (t : Value) (er at_ : Int) (note : ByteArray) (older : List PanicEntry) (w : World)
   (h1 : w.heap[b]? = some (.cells #[x, y, z] 24 (0, 0))) (h2 : w.heap[c]? = some (.cells #[t] 4 (0, 0))) (hbc : ¬ b = c) :
    CallsD Try.prog 21 #[.pointer (some ⟨b, 0, none⟩), .pointer (some ⟨c, 0, none⟩)] (.panicking ({ v := .iface 24 (.agg #[.int .i64 er, .string note, .int .i64 at_]), recovered := false } :: older)) w fun e u' w' =>
      e = .returned (.tuple #[]) ∧ u' = .panicking ({ v := .iface 24 (.agg #[.int .i64 er, .string note, .int .i64 at_]), recovered := true } :: older) ∧
      (w'.heap[b]? = some (.cells #[.int .i64 er, .string note, .int .i64 at_] 24 (0, 0)) ∧ w'.heap[c]? = some (.cells #[.bool false] 4 (0, 0)) ∧ Kp (fun k => k = b ∨ k = c) w w') := by
  have hne : ∀ (v : Value) (w : World), (binOp BinOp.neq 20 (.iface 24 v) .nilIface).run Try.prog w = .ok (.bool true) w := fun _ _ => by kernel_rfl
  refine callsD_of_wpS Try.func21 rfl fun c₀ cs hu => ?_
  apply wpS_seq
  apply wpS_region
  simp [wpOpsS, go_sem, recoverD, hu, Try.ntmps21, Exit.thenS]
  apply wpS_seq
  apply wpS_region
  simp [wpOpsS, go_sem, hne, Exit.thenS]
  refine wpS_cond (t := true) (by simp [Act.eval]) ?_
  simp only [if_true]
  refine wpS_of_wp ?_
  go_wp2_with fail
  refine (faultOf_any _ _ _ _).mono ?_
  rintro e w' ⟨rfl, rfl⟩
  have b1 := blk_alloc (blk_alloc h1 (.cells #[.int .i64 er, .string note, .int .i64 at_] 24)) (.cells #[.int .i64 er, .string note, .int .i64 at_] 24)
  have b2 := blk_alloc (blk_alloc h2 (.cells #[.int .i64 er, .string note, .int .i64 at_] 24)) (.cells #[.int .i64 er, .string note, .int .i64 at_] 24)
  have hk : Kp (fun k => k = b ∨ k = c) w ((w.alloc (.cells #[.int .i64 er, .string note, .int .i64 at_] 24)).alloc (.cells #[.int .i64 er, .string note, .int .i64 at_] 24)) := ((Kp.refl _ _).alloc _).alloc _
  generalize ((w.alloc (.cells #[.int .i64 er, .string note, .int .i64 at_] 24)).alloc (.cells #[.int .i64 er, .string note, .int .i64 at_] 24)) = w1 at *
  have c0 := blk_cell b1 0
  have c1 := blk_cell b1 1
  have c2 := blk_cell b1 2
  have c3 := blk_cell b2 0
  have f0 := blk_frozen b1 0
  have f1 := blk_frozen b1 1
  have f2 := blk_frozen b1 2
  have f3 := blk_frozen b2 0
  have B1 := Lib.hid b1
  have B2 := Lib.hid b2
  clear b1 b2 h1 h2
  go_wp2
  refine ⟨rfl, _, rfl, .tuple #[], by simp [results, Try.results21], rfl, rfl, ?_, ?_, ?_⟩
  · exact blk_setCell_other (by simpa using blk_setCell (blk_setCell (blk_setCell B1.out 0 (.int .i64 er)) 1 (.string note)) 2 (.int .i64 at_)) hbc _
  · simpa using blk_setCell (blk_setCell_other (blk_setCell_other (blk_setCell_other B2.out (p := ⟨b, 0, none⟩) (Ne.symm hbc) (.int .i64 er)) (p := ⟨b, 1, none⟩) (Ne.symm hbc) (.string note)) (p := ⟨b, 2, none⟩) (Ne.symm hbc) (.int .i64 at_)) 0 (.bool false)
  · exact (((hk.setCell (fun _ => Or.inl rfl) _).setCell (fun _ => Or.inl rfl) _).setCell (fun _ => Or.inl rfl) _).setCell (fun _ => Or.inr rfl) _

set_option maxHeartbeats 400000 in
theorem catch_idle (p q : Addr) (w : World) :
    CallsD Try.prog 21 #[.pointer (some p), .pointer (some q)] .returning w fun e u' w' => e = .returned (.tuple #[]) ∧ u' = .returning ∧ w' = w := by
  have hne : ∀ (w : World), (binOp BinOp.neq 20 .nilIface .nilIface).run Try.prog w = .ok (.bool false) w := fun _ => by kernel_rfl
  refine callsD_of_wpS Try.func21 rfl fun c₀ cs hu => ?_
  apply wpS_seq
  apply wpS_region
  simp [wpOpsS, go_sem, recoverD, hu, Try.ntmps21, Exit.thenS]
  apply wpS_seq
  apply wpS_region
  simp [wpOpsS, go_sem, hne, Exit.thenS]
  refine wpS_cond (t := false) (by simp [Act.eval]) ?_
  simp only [Bool.false_eq_true, if_false]
  refine wpS_of_wp (wp_skip ?_)
  cases c₀
  simp_all [bodyPostS, results, Try.results21]

/-- Run's two variables, in memory. -/
def Intact (w w1 : World) : Prop := w1.heap[w.heap.size]? = some (.cells #[.int .i64 0, .string ⟨#[]⟩, .int .i64 0] 24 (0, 0)) ∧ w1.heap[w.heap.size + 1]? = some (.cells #[.bool false] 4 (0, 0))
/-- what Run hands back, and what became of the world behind f -/
def RunPost (f : Value) (ok : Bool) (R : World → Prop) (w : World) (e : Ending) (w' : World) : Prop :=
  e = .returned (.tuple #[f, .bool ok]) ∧ ∃ w1, R w1 ∧ Kp (fun k => k = w.heap.size ∨ k = w.heap.size + 1) w1 w'

set_option maxHeartbeats 400000 in
theorem run_ret (g : Nat) (caps : Array Value) (w : World) (R : World → Prop) (hcf : ∀ w, (callFunc g caps).run Try.prog w = .ok (.enter g caps) w)
    (h : Calls Try.prog g caps (w2 w) fun e w1 => e = .returned (.tuple #[]) ∧ Intact w w1 ∧ R w1) :
    Calls Try.prog 7 #[.func (.func g) #[] caps] w (RunPost (.agg #[.int .i64 0, .string ⟨#[]⟩, .int .i64 0]) true R w) := by
  have hmf : ∀ (fn : Fn) (first cap : Array Value) (w : World), (Instr.makeFunc fn first cap).run Try.prog w = .ok (.func fn first cap) w := fun _ _ _ _ => rfl
  have he := eql_func g caps
  have H := Lib.hid h
  clear h
  go_enter_defers Try.func7, Try.ntmps7
  go_wp2_with fail
  refine H.out.mono ?_
  clear H
  rintro e w1 ⟨rfl, ⟨b1, b2⟩, hR⟩
  have c0 := blk_cell b1 0
  have c1 := blk_cell b1 1
  have c2 := blk_cell b1 2
  have c3 := blk_cell b2 0
  have f0 := blk_frozen b1 0
  have f1 := blk_frozen b1 1
  have f2 := blk_frozen b1 2
  have f3 := blk_frozen b2 0
  have B1 := Lib.hid b1
  have B2 := Lib.hid b2
  clear b1 b2
  go_wp2
  refine leaves_cons (f := 21) (args := #[.pointer (some ⟨w.heap.size, 0, none⟩), .pointer (some ⟨w.heap.size + 1, 0, none⟩)]) (by simp) (by simp [go_sem]) ?_
  refine (catch_idle ⟨w.heap.size, 0, none⟩ ⟨w.heap.size + 1, 0, none⟩ _).mono ?_
  rintro e u' w'' ⟨rfl, rfl, rfl⟩
  refine ⟨.tuple #[.agg #[.int .i64 0, .string ⟨#[]⟩, .int .i64 0], .bool true], by simp [results, Try.results7, go_sem, c0, c1, c2, c3], rfl, w1, hR, ?_⟩
  exact ((((Kp.refl _ _).setCell (fun _ => Or.inl rfl) _).setCell (fun _ => Or.inl rfl) _).setCell (fun _ => Or.inl rfl) _).setCell (fun _ => Or.inr rfl) _

set_option maxHeartbeats 400000 in
theorem run_thrown (g : Nat) (caps : Array Value) (er at_ : Int) (note : ByteArray) (w : World) (R : World → Prop) (hcf : ∀ w, (callFunc g caps).run Try.prog w = .ok (.enter g caps) w)
    (h : Calls Try.prog g caps (w2 w) fun e w1 => e = .panicked (thr er note at_) ∧ Intact w w1 ∧ R w1) :
    Calls Try.prog 7 #[.func (.func g) #[] caps] w (RunPost (.agg #[.int .i64 er, .string note, .int .i64 at_]) false R w) := by
  have hmf : ∀ (fn : Fn) (first cap : Array Value) (w : World), (Instr.makeFunc fn first cap).run Try.prog w = .ok (.func fn first cap) w := fun _ _ _ _ => rfl
  have he := eql_func g caps
  have H := Lib.hid h
  clear h
  go_enter_defers Try.func7, Try.ntmps7
  go_wp2_with fail
  refine H.out.mono ?_
  clear H
  rintro e w1 ⟨rfl, ⟨b1, b2⟩, hR⟩
  refine leaves_cons (f := 21) (args := #[.pointer (some ⟨w.heap.size, 0, none⟩), .pointer (some ⟨w.heap.size + 1, 0, none⟩)]) (by simp) (by simp [go_sem]) ?_
  refine (catch_panicking w.heap.size (w.heap.size + 1) _ _ _ _ er at_ note [] w1 b1 b2 (by omega)).mono ?_
  rintro e u' w' ⟨rfl, rfl, d1, d2, hk⟩
  have c0 := blk_cell d1 0
  have c1 := blk_cell d1 1
  have c2 := blk_cell d1 2
  have c3 := blk_cell d2 0
  refine ⟨.tuple #[.agg #[.int .i64 er, .string note, .int .i64 at_], .bool false], by simp [results, Try.results7, go_sem, c0, c1, c2, c3], rfl, w1, hR, hk⟩

theorem cf8 (w : World) : (callFunc 8 #[]).run Try.prog w = .ok (.enter 8 #[]) w := by simp [go_sem]
theorem cf10 (w : World) : (callFunc 10 #[]).run Try.prog w = .ok (.enter 10 #[]) w := by simp [go_sem]
theorem intact_w2 (w : World) : Intact w (w2 w) := by
  unfold Intact w2
  exact ⟨blk_alloc (blk_new _ _) _, by simpa using blk_new (w.alloc (.cells #[.int .i64 0, .string ⟨#[]⟩, .int .i64 0] 24)) (.cells #[.bool false] 4)⟩
theorem w2_kp (w : World) (S : Nat → Prop) : Kp S w (w2 w) := ((Kp.refl _ _).alloc _).alloc _

set_option maxHeartbeats 400000 in
theorem runs1 (w : World) : Calls Try.prog 8 #[] w fun e w' => e = .panicked (thr 6 ⟨#[120]⟩ 3) ∧ w = w' := by
  go_enter Try.func8, Try.ntmps8
  go_wp2_with (go_at_call 9; refine (throw_any _ _ _ _).mono ?_; rintro e w' ⟨rfl, rfl⟩)
  exact ⟨rfl, rfl, rfl⟩
set_option maxHeartbeats 400000 in
theorem runs2 (w : World) : Calls Try.prog 10 #[] w fun e w' => e = .returned (.tuple #[]) ∧ w = w' := by
  go_enter Try.func10, Try.ntmps10
  go_wp2_with (go_at_call 11; refine (must_yes _ _ _ _).mono ?_; rintro e w' ⟨rfl, rfl⟩)
  go_end0
  exact ⟨rfl, rfl⟩

theorem run8 (w : World) : Calls Try.prog 7 #[.func (.func 8) #[] #[]] w fun e w' => e = .returned (.tuple #[.agg #[.int .i64 6, .string ⟨#[120]⟩, .int .i64 3], .bool false]) ∧ Below w.heap.size w w' := by
  refine (run_thrown 8 #[] 6 3 ⟨#[120]⟩ w (fun w1 => w1 = w2 w) cf8 ?_).mono ?_
  · refine (runs1 _).mono ?_
    rintro e w' ⟨rfl, rfl⟩
    exact ⟨rfl, intact_w2 w, rfl⟩
  · rintro e w' ⟨rfl, w1, rfl, hk⟩
    exact ⟨rfl, ((w2_kp w _).trans hk (fun i hi h => h)).below (Nat.le_refl _) (fun k hk => by omega)⟩
theorem run10 (w : World) : Calls Try.prog 7 #[.func (.func 10) #[] #[]] w fun e w' => e = .returned (.tuple #[.agg #[.int .i64 0, .string ⟨#[]⟩, .int .i64 0], .bool true]) ∧ Below w.heap.size w w' := by
  refine (run_ret 10 #[] w (fun w1 => w1 = w2 w) cf10 ?_).mono ?_
  · refine (runs2 _).mono ?_
    rintro e w' ⟨rfl, rfl⟩
    exact ⟨rfl, intact_w2 w, rfl⟩
  · rintro e w' ⟨rfl, w1, rfl, hk⟩
    exact ⟨rfl, ((w2_kp w _).trans hk (fun i hi h => h)).below (Nat.le_refl _) (fun k hk => by omega)⟩

/-- a block of three known whole: its cells behind whatever is made -/
theorem blk3 {w : World} {b : Nat} {x y z : Value} {t : TypeId} (h : w.heap[b]? = some (.cells #[x, y, z] t (0, 0))) (o : Obj) :
    (w.alloc o).cell? ⟨b, 0, none⟩ = some x ∧ (w.alloc o).cell? ⟨b, 1, none⟩ = some y ∧ (w.alloc o).cell? ⟨b, 2, none⟩ = some z := by
  have k := blk_alloc h o
  exact ⟨blk_cell k 0, blk_cell k 1, blk_cell k 2⟩

set_option maxHeartbeats 400000 in
set_option maxRecDepth 100000 in
theorem trapRuns_any (w : World) : Calls Try.prog 3 #[] w fun e w' => e = .returned (.bool true) ∧ Below w.heap.size w w' := by
  go_enter Try.func3, Try.ntmps3
  go_wp2_with fail
  refine (run8 _).mono ?_
  rintro e w1 ⟨rfl, hb1⟩
  go_wp2_with fail
  refine (run10 _).mono ?_
  rintro e w3 ⟨rfl, hb3⟩
  have B := (hb3.block w1.heap.size (by simp)).trans (blk_new w1 _)
  obtain ⟨a0, a1, a2⟩ := blk3 B (.cells #[.int .i64 0, .string ⟨#[]⟩, .int .i64 0] 24)
  have hw : Hid (Below w.heap.size w w3) := ((hb1.alloc hb1.size _).trans (hb3.mono (by have := hb1.size; simp; omega)))
  have hs : Hid (w.heap.size ≤ w3.heap.size) := by have := hw.out.size; exact this
  clear B hb1 hb3
  go_wp2
  go_ret
  exact ⟨rfl, hw.out.alloc hs.out _⟩
end Go.Proofs.Ytnbkgpkgfolakaa
