/-
  The contract of past.From.
-/
import Derived.Test.YtbkhlmnonjkelaaAid
namespace Go.Proofs.Ytbkhlmnonjkelaa
open Go.RowKit Go.PlainAid
set_option maxRecDepth 100000

/-- an entry, its scroll cleaned -/
def clE (e : En) : En := (e.1, clI e.2)
/-- the first k entries of l, cleaned -/
def fromK (l : List En) (k : Nat) : Nat → En := fun i => if i < k then clE (l.getD i default) else (⟨#[]⟩, 0)
theorem fromK_next (l : List En) (k : Nat) : putE (fromK l k) k ((l.getD k default).1, clI (l.getD k default).2) = fromK l (k + 1) := by
  funext i
  unfold putE fromK
  by_cases h : i = k
  · subst h
    rw [if_pos rfl, if_pos (by omega)]
    rfl
  · rw [if_neg h]
    by_cases h2 : i < k
    · rw [if_pos h2, if_pos (by omega)]
    · rw [if_neg h2, if_neg (by omega)]
theorem fromK_zero (l : List En) : fromK l 0 = fun _ => (⟨#[]⟩, 0) := by
  funext i
  simp [fromK]

set_option maxHeartbeats 3200000 in
theorem from18_none (A : Option Addr) (n c : Nat) (at_ : Int) (w : World) (h : at_ < 0 ∨ (n : Int) ≤ at_ ∨ 12 < n) :
    Calls Try.prog 18 #[.slice A n c, .int .i64 at_] w fun e w' => e = .returned (.pointer none) ∧ w' = w := by
  by_cases h1 : at_ < 0
  · clear h
    go_enter Try.func18, Try.ntmps18
    go_wp2
    go_ret
    exact ⟨rfl, rfl⟩
  · by_cases h2 : (n : Int) ≤ at_
    · clear h
      go_enter Try.func18, Try.ntmps18
      go_wp2
      go_ret
      exact ⟨rfl, rfl⟩
    · have h3 : (12 : Int) < (n : Int) := by omega
      clear h
      go_enter Try.func18, Try.ntmps18
      go_wp2
      go_ret
      exact ⟨rfl, rfl⟩

set_option maxHeartbeats 6400000 in
theorem from18_yes (v : Value) (l : List En) (at_ : Nat) (w : World) (hv : Es w v l) (hu : ∀ e ∈ l, U64 e.2) (ha : at_ < l.length) (hl : l.length ≤ 12) :
    Calls Try.prog 18 #[v, .int .i64 at_] w (NewP w (fromK l l.length) (l.length - 1) at_) := by
  have HV := Lib.hid hv
  obtain ⟨A, c, rfl, hcap, _, hcell⟩ := hv
  have HC := Lib.hid hcell
  clear hcell
  have k1 : ¬ (at_ : Int) < 0 := by omega
  have k2 : ¬ (l.length : Int) ≤ (at_ : Int) := by omega
  have k3 : ¬ (12 : Int) < (l.length : Int) := by omega
  go_enter Try.func18, Try.ntmps18
  go_wp2_with fail
  rw [show (l.length : Int) - 1 = ((l.length - 1 : Nat) : Int) by omega]
  have hP : Pc (w.alloc (.cells #[.string ⟨#[]⟩, .int .u64 0, .string ⟨#[]⟩, .int .u64 0, .string ⟨#[]⟩, .int .u64 0, .string ⟨#[]⟩, .int .u64 0, .string ⟨#[]⟩, .int .u64 0, .string ⟨#[]⟩, .int .u64 0, .string ⟨#[]⟩, .int .u64 0, .string ⟨#[]⟩, .int .u64 0, .string ⟨#[]⟩, .int .u64 0, .string ⟨#[]⟩, .int .u64 0, .string ⟨#[]⟩, .int .u64 0, .string ⟨#[]⟩, .int .u64 0, .int .i64 ((l.length - 1 : Nat) : Int), .int .i64 at_] 56 (0, 0))) w.heap.size (fun _ => (⟨#[]⟩, 0)) (l.length - 1) at_ := pc_full (g := fun _ => (⟨#[]⟩, 0)) (blk_new w _)
  have hB : Below w.heap.size w (w.alloc (.cells #[.string ⟨#[]⟩, .int .u64 0, .string ⟨#[]⟩, .int .u64 0, .string ⟨#[]⟩, .int .u64 0, .string ⟨#[]⟩, .int .u64 0, .string ⟨#[]⟩, .int .u64 0, .string ⟨#[]⟩, .int .u64 0, .string ⟨#[]⟩, .int .u64 0, .string ⟨#[]⟩, .int .u64 0, .string ⟨#[]⟩, .int .u64 0, .string ⟨#[]⟩, .int .u64 0, .string ⟨#[]⟩, .int .u64 0, .string ⟨#[]⟩, .int .u64 0, .int .i64 ((l.length - 1 : Nat) : Int), .int .i64 at_] 56 (0, 0))) := (Below.refl _ w).alloc (Nat.le_refl _) _
  rw [← fromK_zero l] at hP
  generalize w.alloc (.cells #[.string ⟨#[]⟩, .int .u64 0, .string ⟨#[]⟩, .int .u64 0, .string ⟨#[]⟩, .int .u64 0, .string ⟨#[]⟩, .int .u64 0, .string ⟨#[]⟩, .int .u64 0, .string ⟨#[]⟩, .int .u64 0, .string ⟨#[]⟩, .int .u64 0, .string ⟨#[]⟩, .int .u64 0, .string ⟨#[]⟩, .int .u64 0, .string ⟨#[]⟩, .int .u64 0, .string ⟨#[]⟩, .int .u64 0, .string ⟨#[]⟩, .int .u64 0, .int .i64 ((l.length - 1 : Nat) : Int), .int .i64 at_] 56 (0, 0)) = w1 at *
  clear k1 k2 k3
  go_loopw [29] (fun i wr => ∃ (k : Nat), k ≤ l.length ∧ i = .int .i64 k ∧ Pc wr w.heap.size (fromK l k) (l.length - 1) at_ ∧ Below w.heap.size w wr) (fun i _ => l.length - (intOf i).toNat)
  case atStart => exact ⟨0, by omega, rfl, hP, hB⟩
  case round =>
    clear hP hB
    obtain ⟨k, hk, rfl, hp, hb⟩ := hrel
    have HP := Lib.hid hp
    have HB := Lib.hid hb
    clear hp hb
    by_cases hlt : k < l.length
    · have d0 : (k : Int) < (l.length : Int) := by omega
      obtain ⟨D, o, rfl, q0, q1⟩ := HC.out k hlt
      have NX := Lib.hid (fromK_next l k)
      have hue := hu _ (getD_mem l k hlt)
      have g0 : wr.cell? ⟨D, o + k * 2, none⟩ = some (.string (l.getD k default).1) := by rw [HB.out.cell (World.block_lt_of_cell? _ _ q0)]; exact q0
      have g1 : wr.cell? ⟨D, o + k * 2 + 1, none⟩ = some (.int .u64 (l.getD k default).2) := by rw [HB.out.cell (World.block_lt_of_cell? _ _ q1)]; exact q1
      clear q0 q1
      generalize l.getD k default = e0 at *
      obtain ⟨s0, x0⟩ := e0
      simp only at g0 g1 NX hue
      have HE := Lib.hid hue
      clear hue
      have hT : (wr.alloc (.cells #[.string s0, .int .u64 x0] 28 (0, 0))).drew.heap[wr.heap.size]? = _ := blk_new wr _
      have hp2 := (HP.out.alloc (.cells #[.string s0, .int .u64 x0] 28 (0, 0))).drew
      have hb2 := (HB.out.alloc HB.out.size (.cells #[.string s0, .int .u64 x0] 28 (0, 0))).drew
      go_wp2_with fail
      refine wp_region_still_tail 11 (by kernel_rfl) (by kernel_rfl) ?_
      change wpStill Try.prog _ (World.drew (wr.alloc _)) (fun a' => wpList Try.prog _ _ _ a' (World.drew (wr.alloc _))) _ _
      generalize (wr.alloc (.cells #[.string s0, .int .u64 x0] 28 (0, 0))).drew = wd at *
      generalize wr.heap.size = T at *
      have t0 := blk_cell hT 0
      have t1 := blk_cell hT 1
      simp at t0 t1
      have p0 := hp2.txt k (by omega)
      have p1 := hp2.scr k (by omega)
      have f0 := hp2.fro (k * 2)
      have f1 := hp2.fro (k * 2 + 1)
      have i0 : (k : Int) < 12 := by omega
      simp only [List.take_succ_cons, List.take_zero, List.drop_succ_cons, List.drop_zero]
      repeat still_step
      still_call (clean' x0 wd HE.out)
      repeat still_step
      refine wpStill_nil ?_
      go_wp2_with fail
      have h3 := hp2.setEnt k (by omega) s0 (clI x0)
      rw [NX.out] at h3
      have hk3 := ((Kp.refl (fun i => i = w.heap.size) wd).setCell (p := ⟨w.heap.size, k * 2, none⟩) (fun _ => rfl) (.string s0)).setCell (p := ⟨w.heap.size, k * 2 + 1, none⟩) (fun _ => rfl) (.int .u64 (clI x0))
      go_roundw
      case rel => exact ⟨k + 1, by omega, by go_num, h3, hb2.trans (hk3.below hb2.size (fun i hi e => by omega))⟩
      case measure => simp [intOf]; omega
    · obtain rfl : k = l.length := by omega
      go_wp2
      go_ret
      exact ⟨_, rfl, Nat.le_refl _, HP.out, HB.out⟩
end Go.Proofs.Ytbkhlmnonjkelaa
