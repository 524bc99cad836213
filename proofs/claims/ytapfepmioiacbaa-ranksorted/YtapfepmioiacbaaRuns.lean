/-
  Chapter 6 (its runs), walked.
-/
import Derived.Test.YtapfepmioiacbaaFst
import Derived.Test.YtapfepmioiacbaaReg
import Derived.Deep.CutBlock
import Derived.Deep.DeepCutAuto
namespace Go.Proofs.Ytapfepmioiacbaa
open Go.RowKit Go.PlainAid
set_option linter.unusedSimpArgs false
theorem seg7 (k : Int) (t : ByteArray) (w : World) : Calls Try.prog 7 #[.int .i64 k, .string t] w fun e w' => e = .returned (.agg #[.int .i64 k, .string t]) ∧ w' = w.alloc (.cells #[.int .i64 k, .string t] 23 (0, 0)) := by
  go_enter Try.func7, Try.ntmps7
  go_wp2
  refine bodyPost_ret (v := .agg #[.int .i64 k, .string t]) (results_cell_row (P := Try.prog) rfl _ _ w.heap.size 23 #[.int .i64 k, .string t] (0, 0) _ rfl (blk_new _ _) Try.underlying23 rfl (by kernel_rfl)) rfl ⟨rfl, rfl⟩
theorem al3 (w : World) (a b c x y z : Obj) : Below w.heap.size w ((((((w.alloc a).alloc b).alloc c).alloc x).alloc y).alloc z) ∧ ((((((w.alloc a).alloc b).alloc c).alloc x).alloc y).alloc z).heap[w.heap.size + 1 + 1 + 1]? = some x ∧ ((((((w.alloc a).alloc b).alloc c).alloc x).alloc y).alloc z).heap[w.heap.size + 1 + 1 + 1 + 1]? = some y ∧ ((((((w.alloc a).alloc b).alloc c).alloc x).alloc y).alloc z).heap[w.heap.size + 1 + 1 + 1 + 1 + 1]? = some z := by
  have e : (((w.alloc a).alloc b).alloc c).heap.size = w.heap.size + 1 + 1 + 1 := by simp
  have b3 : Below w.heap.size w (((w.alloc a).alloc b).alloc c) := (((Below.refl _ _).alloc (Nat.le_refl _) a).alloc (by simp) b).alloc (by simp; omega) c
  rw [← e]
  generalize ((w.alloc a).alloc b).alloc c = w1 at *
  refine ⟨((b3.alloc b3.size x).alloc (by have := b3.size; simp; omega) y).alloc (by have := b3.size; simp; omega) z, blk_alloc (blk_alloc (blk_new _ _) _) _, blk_alloc (blk_new1 _ _ _) _, ?_⟩
  have := blk_new1 (w1.alloc x) y z
  simpa using this
theorem gss_three {W : World} {v1 v2 v3 : Value} {l1 l2 l3 : List Sg} (h1 : Gs W v1 l1) (h2 : Gs W v2 l2) (h3 : Gs W v3 l3) : Gss (W.alloc (.cells #[v1, v2, v3] 26 (0, 0))) (.slice (some ⟨W.heap.size, 0, none⟩) 3 3) [l1, l2, l3] := by
  have hb : Below W.heap.size W (W.alloc (.cells #[v1, v2, v3] 26 (0, 0))) := (Below.refl _ _).alloc (Nat.le_refl _) _
  have hk := blk_new W (.cells #[v1, v2, v3] 26 (0, 0))
  refine ⟨_, 3, rfl, Nat.le_refl _, (fun e => by cases e), fun i hi => ?_⟩
  have hi3 : i < 3 := hi
  obtain rfl | rfl | rfl : i = 0 ∨ i = 1 ∨ i = 2 := by omega
  · exact ⟨_, 0, v1, rfl, by rw [blk_cell hk]; rfl, h1.call hb⟩
  · exact ⟨_, 0, v2, rfl, by rw [blk_cell hk]; rfl, h2.call hb⟩
  · exact ⟨_, 0, v3, rfl, by rw [blk_cell hk]; rfl, h3.call hb⟩
theorem few3 : Few [[((0 : Int), (⟨#[98]⟩ : ByteArray))], [((0 : Int), (⟨#[97]⟩ : ByteArray))], [((0 : Int), (⟨#[97]⟩ : ByteArray))]] := by
  intro l hl
  simp only [List.mem_cons, List.not_mem_nil, or_false] at hl
  rcases hl with rfl | rfl | rfl <;> decide
set_option maxHeartbeats 6400000 in
set_option maxRecDepth 100000 in
theorem rankRuns_any (w : World) : Calls Try.prog 3 #[] w fun e w' => e = .returned (.bool true) ∧ Below w.heap.size w w' := by
  go_enter Try.func3, Try.ntmps3
  go_upto_region 2 with (first | (go_at_call 7; refine (seg7 _ _ _).mono ?_; rintro e w' ⟨rfl, hww⟩; subst hww))
  obtain ⟨hb0, k0, k1, k2⟩ := al3 w (.cells #[.int .i64 0, .string ⟨#[97]⟩] 23 (0, 0)) (.cells #[.int .i64 1, .string ⟨#[120]⟩] 23 (0, 0)) (.cells #[.int .i64 0, .string ⟨#[98]⟩] 23 (0, 0)) (.cells #[.int .i64 0, .string ⟨#[97]⟩] 23 (0, 0)) (.cells #[.int .i64 1, .string ⟨#[120]⟩] 23 (0, 0)) (.cells #[.int .i64 0, .string ⟨#[98]⟩] 23 (0, 0))
  generalize (((((w.alloc (.cells #[.int .i64 0, .string ⟨#[97]⟩] 23 (0, 0))).alloc (.cells #[.int .i64 1, .string ⟨#[120]⟩] 23 (0, 0))).alloc (.cells #[.int .i64 0, .string ⟨#[98]⟩] 23 (0, 0))).alloc (.cells #[.int .i64 0, .string ⟨#[97]⟩] 23 (0, 0))).alloc (.cells #[.int .i64 1, .string ⟨#[120]⟩] 23 (0, 0))).alloc (.cells #[.int .i64 0, .string ⟨#[98]⟩] 23 (0, 0)) = w5 at *
  generalize w.heap.size + 1 + 1 + 1 + 1 + 1 = N2 at *
  generalize w.heap.size + 1 + 1 + 1 + 1 = N1 at *
  generalize w.heap.size + 1 + 1 + 1 = N0 at *
  have KS : Hid (∀ W : World, Below w5.heap.size w5 W → (fun w' : World => w'.cell? ⟨N0, 0, none⟩ = some (.int .i64 0) ∧ w'.cell? ⟨N0, 1, none⟩ = some (.string ⟨#[97]⟩) ∧ w'.cell? ⟨N1, 0, none⟩ = some (.int .i64 1) ∧ w'.cell? ⟨N1, 1, none⟩ = some (.string ⟨#[120]⟩) ∧ w'.cell? ⟨N2, 0, none⟩ = some (.int .i64 0) ∧ w'.cell? ⟨N2, 1, none⟩ = some (.string ⟨#[98]⟩)) W) := by
    intro W hW
    obtain ⟨a0, a1, _, _⟩ := blk2 (blk_call k0 hW)
    obtain ⟨b0, b1, _, _⟩ := blk2 (blk_call k1 hW)
    obtain ⟨c0, c1, _, _⟩ := blk2 (blk_call k2 hW)
    exact ⟨a0, a1, b0, b1, c0, c1⟩
  clear k0 k1 k2
  have HBW := Lib.hid hb0
  clear hb0
  have HB0 := Lib.hid ((Below.refl w5.heap.size w5).drew)
  have hS0 : (fun w' : World => w'.cell? ⟨N0, 0, none⟩ = some (.int .i64 0) ∧ w'.cell? ⟨N0, 1, none⟩ = some (.string ⟨#[97]⟩) ∧ w'.cell? ⟨N1, 0, none⟩ = some (.int .i64 1) ∧ w'.cell? ⟨N1, 1, none⟩ = some (.string ⟨#[120]⟩) ∧ w'.cell? ⟨N2, 0, none⟩ = some (.int .i64 0) ∧ w'.cell? ⟨N2, 1, none⟩ = some (.string ⟨#[98]⟩)) w5.drew := KS.out _ HB0.out
  refine wp_region_sink (S := (fun w' : World => w'.cell? ⟨N0, 0, none⟩ = some (.int .i64 0) ∧ w'.cell? ⟨N0, 1, none⟩ = some (.string ⟨#[97]⟩) ∧ w'.cell? ⟨N1, 0, none⟩ = some (.int .i64 1) ∧ w'.cell? ⟨N1, 1, none⟩ = some (.string ⟨#[120]⟩) ∧ w'.cell? ⟨N2, 0, none⟩ = some (.int .i64 0) ∧ w'.cell? ⟨N2, 1, none⟩ = some (.string ⟨#[98]⟩))) (n := 1000) (by kernel_rfl) ?_
  change wpSink _ _ _ _ _ 1000 51 _ _ _
  refine sink_take1 (i := 0) (d := some 7) (v := ?_) rfl rfl (by kernel_rfl) (by decide) (by kernel_rfl) (by kernel_rfl) (fun _ _ _ h => h) (Or.inl ⟨by rfl, ?_⟩) hS0 ?_
  rotate_left
  · intro wz hSw
    (try dsimp only at hSw)
    obtain ⟨s0, s1, s2, s3, s4, s5⟩ := hSw
    go_simp
    (try with_reducible rfl)
  try simp only [Act.put, List.setIfInBounds_toArray, List.set_cons_zero, List.set_cons_succ]
  refine sink_take1 (i := 1) (d := some 8) (v := ?_) rfl rfl (by kernel_rfl) (by decide) (by kernel_rfl) (by kernel_rfl) (fun _ _ _ h => h) (Or.inl ⟨by rfl, ?_⟩) hS0 ?_
  rotate_left
  · intro wz hSw
    (try dsimp only at hSw)
    obtain ⟨s0, s1, s2, s3, s4, s5⟩ := hSw
    go_simp
    (try with_reducible rfl)
  try simp only [Act.put, List.setIfInBounds_toArray, List.set_cons_zero, List.set_cons_succ]
  refine sink_take1 (i := 3) (d := some 10) (v := ?_) rfl rfl (by kernel_rfl) (by decide) (by kernel_rfl) (by kernel_rfl) (fun _ _ _ h => h) (Or.inl ⟨by rfl, ?_⟩) hS0 ?_
  rotate_left
  · intro wz hSw
    (try dsimp only at hSw)
    obtain ⟨s0, s1, s2, s3, s4, s5⟩ := hSw
    go_simp
    (try with_reducible rfl)
  try simp only [Act.put, List.setIfInBounds_toArray, List.set_cons_zero, List.set_cons_succ]
  refine sink_take1 (i := 4) (d := some 11) (v := ?_) rfl rfl (by kernel_rfl) (by decide) (by kernel_rfl) (by kernel_rfl) (fun _ _ _ h => h) (Or.inl ⟨by rfl, ?_⟩) hS0 ?_
  rotate_left
  · intro wz hSw
    (try dsimp only at hSw)
    obtain ⟨s0, s1, s2, s3, s4, s5⟩ := hSw
    go_simp
    (try with_reducible rfl)
  try simp only [Act.put, List.setIfInBounds_toArray, List.set_cons_zero, List.set_cons_succ]
  refine sink_two (i := 2) (j := 5) (di := 9) (dj := 12) (X := .cells #[.int .i64 0, .string ⟨#[97]⟩, .int .i64 1, .string ⟨#[120]⟩] 23 (0, 0)) (Y := .cells #[.int .i64 1, .string ⟨#[120]⟩, .int .i64 0, .string ⟨#[97]⟩] 23 (0, 0)) (mi := fun N => .slice (some ⟨N, 0, none⟩) 2 2) (mj := fun N => .slice (some ⟨N, 0, none⟩) 2 2) (by decide) (by decide) (by kernel_rfl) (by kernel_rfl) (by kernel_rfl) (by intro K wz hK; refine wpOp_step rfl (fun K2 hK2 => ?_); have HK2 := Lib.hid hK2; have HK := Lib.hid hK; clear hK2 hK; (try simp only [Act.put, List.setIfInBounds_toArray, List.set_cons_zero, List.set_cons_succ]); rw [if_pos (by rfl)]; go_simp; exact HK2.out _ _ HK.out) (by intro K wz hK; refine wpOp_step rfl (fun K2 hK2 => ?_); have HK2 := Lib.hid hK2; have HK := Lib.hid hK; clear hK2 hK; (try simp only [Act.put, List.setIfInBounds_toArray, List.set_cons_zero, List.set_cons_succ]); rw [if_pos (by rfl)]; go_simp; exact HK2.out _ _ HK.out) (by intro vz K wz hK; refine wpOp_step rfl (fun K2 hK2 => ?_); have HK2 := Lib.hid hK2; have HK := Lib.hid hK; clear hK2 hK; (try simp only [Act.put, List.setIfInBounds_toArray, List.set_cons_zero, List.set_cons_succ]); rw [if_pos (by rfl)]; go_simp; exact HK2.out _ _ HK.out) (by intro vz K wz hK; refine wpOp_step rfl (fun K2 hK2 => ?_); have HK2 := Lib.hid hK2; have HK := Lib.hid hK; clear hK2 hK; (try simp only [Act.put, List.setIfInBounds_toArray, List.set_cons_zero, List.set_cons_succ]); rw [if_pos (by rfl)]; go_simp; exact HK2.out _ _ HK.out) (fun W hW => KS.out _ (HB0.out.trans (hW.mono HB0.out.size))) ?_
  intro M1 M2 W1 hb hx hy
  have HB1 := Lib.hid (HB0.out.trans (hb.mono HB0.out.size))
  have G1 := Lib.hid (gs_new (l := [((0 : Int), (⟨#[97]⟩ : ByteArray)), ((1 : Int), (⟨#[120]⟩ : ByteArray))]) (n := 2) hx rfl)
  have E1 := Lib.hid (gs_new (l := [((1 : Int), (⟨#[120]⟩ : ByteArray)), ((0 : Int), (⟨#[97]⟩ : ByteArray))]) (n := 2) hy rfl)
  have hS1 := KS.out _ HB1.out
  clear hb hx hy hS0
  try simp only [Act.put, List.setIfInBounds_toArray, List.set_cons_zero, List.set_cons_succ]
  refine sink_one (i := 6) (by kernel_rfl) ?_
  refine wpOp_step rfl (fun K' hK => ?_)
  have HK := Lib.hid hK
  clear hK
  rw [if_pos (by rfl)]
  go_simp
  refine (compare8 _ _ _ _ _ G1.out E1.out (by decide) (by decide)).mono ?_
  rintro e W2 ⟨rfl, hq⟩
  rw [show cP [((0 : Int), (⟨#[97]⟩ : ByteArray)), ((1 : Int), (⟨#[120]⟩ : ByteArray))] [((1 : Int), (⟨#[120]⟩ : ByteArray)), ((0 : Int), (⟨#[97]⟩ : ByteArray))] = -1 by decide +kernel]
  have HB2 := Lib.hid (HB1.out.trans ((drB hq _).mono HB1.out.size))
  have hS2 := KS.out _ HB2.out
  refine HK.out _ _ ⟨Or.inr hS2, ?_⟩
  clear HK hq hS1
  try simp only [Act.put, List.setIfInBounds_toArray, List.set_cons_zero, List.set_cons_succ]
  refine sink_take1 (i := 7) (d := some 14) (v := ?_) rfl rfl (by kernel_rfl) (by decide) (by kernel_rfl) (by kernel_rfl) (fun _ _ _ h => h) (Or.inl ⟨by rfl, ?_⟩) hS2 ?_
  rotate_left
  · intro wz hSw
    (try dsimp only at hSw)
    obtain ⟨s0, s1, s2, s3, s4, s5⟩ := hSw
    go_simp
    (try with_reducible rfl)
  try simp only [Act.put, List.setIfInBounds_toArray, List.set_cons_zero, List.set_cons_succ]
  refine sink_take1 (i := 8) (d := some 15) (v := ?_) rfl rfl (by kernel_rfl) (by decide) (by kernel_rfl) (by kernel_rfl) (fun _ _ _ h => h) (Or.inl ⟨by rfl, ?_⟩) hS2 ?_
  rotate_left
  · intro wz hSw
    (try dsimp only at hSw)
    obtain ⟨s0, s1, s2, s3, s4, s5⟩ := hSw
    go_simp
    (try with_reducible rfl)
  try simp only [Act.put, List.setIfInBounds_toArray, List.set_cons_zero, List.set_cons_succ]
  refine sink_take1 (i := 9) (d := some 16) (v := ?_) rfl rfl (by kernel_rfl) (by decide) (by kernel_rfl) (by kernel_rfl) (fun _ _ _ h => h) (Or.inl ⟨by rfl, ?_⟩) hS2 ?_
  rotate_left
  · intro wz hSw
    (try dsimp only at hSw)
    obtain ⟨s0, s1, s2, s3, s4, s5⟩ := hSw
    go_simp
    (try with_reducible rfl)
  try simp only [Act.put, List.setIfInBounds_toArray, List.set_cons_zero, List.set_cons_succ]
  refine sink_take1 (i := 10) (d := some 17) (v := ?_) rfl rfl (by kernel_rfl) (by decide) (by kernel_rfl) (by kernel_rfl) (fun _ _ _ h => h) (Or.inl ⟨by rfl, ?_⟩) hS2 ?_
  rotate_left
  · intro wz hSw
    (try dsimp only at hSw)
    obtain ⟨s0, s1, s2, s3, s4, s5⟩ := hSw
    go_simp
    (try with_reducible rfl)
  try simp only [Act.put, List.setIfInBounds_toArray, List.set_cons_zero, List.set_cons_succ]
  refine sink_take1 (i := 12) (d := some 19) (v := ?_) rfl rfl (by kernel_rfl) (by decide) (by kernel_rfl) (by kernel_rfl) (fun _ _ _ h => h) (Or.inl ⟨by rfl, ?_⟩) hS2 ?_
  rotate_left
  · intro wz hSw
    (try dsimp only at hSw)
    obtain ⟨s0, s1, s2, s3, s4, s5⟩ := hSw
    go_simp
    (try with_reducible rfl)
  try simp only [Act.put, List.setIfInBounds_toArray, List.set_cons_zero, List.set_cons_succ]
  refine sink_two (i := 11) (j := 13) (di := 18) (dj := 20) (X := .cells #[.int .i64 0, .string ⟨#[97]⟩, .int .i64 0, .string ⟨#[98]⟩] 23 (0, 0)) (Y := .cells #[.int .i64 0, .string ⟨#[97]⟩] 23 (0, 0)) (mi := fun N => .slice (some ⟨N, 0, none⟩) 2 2) (mj := fun N => .slice (some ⟨N, 0, none⟩) 1 1) (by decide) (by decide) (by kernel_rfl) (by kernel_rfl) (by kernel_rfl) (by intro K wz hK; refine wpOp_step rfl (fun K2 hK2 => ?_); have HK2 := Lib.hid hK2; have HK := Lib.hid hK; clear hK2 hK; (try simp only [Act.put, List.setIfInBounds_toArray, List.set_cons_zero, List.set_cons_succ]); rw [if_pos (by rfl)]; go_simp; exact HK2.out _ _ HK.out) (by intro K wz hK; refine wpOp_step rfl (fun K2 hK2 => ?_); have HK2 := Lib.hid hK2; have HK := Lib.hid hK; clear hK2 hK; (try simp only [Act.put, List.setIfInBounds_toArray, List.set_cons_zero, List.set_cons_succ]); rw [if_pos (by rfl)]; go_simp; exact HK2.out _ _ HK.out) (by intro vz K wz hK; refine wpOp_step rfl (fun K2 hK2 => ?_); have HK2 := Lib.hid hK2; have HK := Lib.hid hK; clear hK2 hK; (try simp only [Act.put, List.setIfInBounds_toArray, List.set_cons_zero, List.set_cons_succ]); rw [if_pos (by rfl)]; go_simp; exact HK2.out _ _ HK.out) (by intro vz K wz hK; refine wpOp_step rfl (fun K2 hK2 => ?_); have HK2 := Lib.hid hK2; have HK := Lib.hid hK; clear hK2 hK; (try simp only [Act.put, List.setIfInBounds_toArray, List.set_cons_zero, List.set_cons_succ]); rw [if_pos (by rfl)]; go_simp; exact HK2.out _ _ HK.out) (fun W hW => KS.out _ (HB2.out.trans (hW.mono HB2.out.size))) ?_
  intro M1 M2 W3 hb hx hy
  have HB3 := Lib.hid (HB2.out.trans (hb.mono HB2.out.size))
  have G3 := Lib.hid (gs_new (l := [((0 : Int), (⟨#[97]⟩ : ByteArray)), ((0 : Int), (⟨#[98]⟩ : ByteArray))]) (n := 2) hx rfl)
  have E3 := Lib.hid (gs_new (l := [((0 : Int), (⟨#[97]⟩ : ByteArray))]) (n := 1) hy rfl)
  have hS3 := KS.out _ HB3.out
  clear hb hx hy hS2
  try simp only [Act.put, List.setIfInBounds_toArray, List.set_cons_zero, List.set_cons_succ]
  refine sink_one (i := 14) (by kernel_rfl) ?_
  refine wpOp_step rfl (fun K' hK => ?_)
  have HK := Lib.hid hK
  clear hK
  rw [if_pos (by rfl)]
  go_simp
  refine (compare8 _ _ _ _ _ G3.out E3.out (by decide) (by decide)).mono ?_
  rintro e W4 ⟨rfl, hq⟩
  rw [show cP [((0 : Int), (⟨#[97]⟩ : ByteArray)), ((0 : Int), (⟨#[98]⟩ : ByteArray))] [((0 : Int), (⟨#[97]⟩ : ByteArray))] = -1 by decide +kernel]
  have HB4 := Lib.hid (HB3.out.trans ((drB hq _).mono HB3.out.size))
  have hS4 := KS.out _ HB4.out
  refine HK.out _ _ ⟨Or.inr hS4, ?_⟩
  clear HK hq hS3
  try simp only [Act.put, List.setIfInBounds_toArray, List.set_cons_zero, List.set_cons_succ]
  refine sink_take1 (i := 15) (d := some 22) (v := ?_) rfl rfl (by kernel_rfl) (by decide) (by kernel_rfl) (by kernel_rfl) (fun _ _ _ h => h) (Or.inl ⟨by rfl, ?_⟩) hS4 ?_
  rotate_left
  · intro wz hSw
    (try dsimp only at hSw)
    obtain ⟨s0, s1, s2, s3, s4, s5⟩ := hSw
    go_simp
    (try with_reducible rfl)
  try simp only [Act.put, List.setIfInBounds_toArray, List.set_cons_zero, List.set_cons_succ]
  refine sink_take1 (i := 16) (d := some 23) (v := ?_) rfl rfl (by kernel_rfl) (by decide) (by kernel_rfl) (by kernel_rfl) (fun _ _ _ h => h) (Or.inl ⟨by rfl, ?_⟩) hS4 ?_
  rotate_left
  · intro wz hSw
    (try dsimp only at hSw)
    obtain ⟨s0, s1, s2, s3, s4, s5⟩ := hSw
    go_simp
    (try with_reducible rfl)
  try simp only [Act.put, List.setIfInBounds_toArray, List.set_cons_zero, List.set_cons_succ]
  refine sink_take1 (i := 17) (d := some 24) (v := ?_) rfl rfl (by kernel_rfl) (by decide) (by kernel_rfl) (by kernel_rfl) (fun _ _ _ h => h) (Or.inl ⟨by rfl, ?_⟩) hS4 ?_
  rotate_left
  · intro wz hSw
    (try dsimp only at hSw)
    obtain ⟨s0, s1, s2, s3, s4, s5⟩ := hSw
    go_simp
    (try with_reducible rfl)
  try simp only [Act.put, List.setIfInBounds_toArray, List.set_cons_zero, List.set_cons_succ]
  refine sink_take1 (i := 18) (d := some 25) (v := ?_) rfl rfl (by kernel_rfl) (by decide) (by kernel_rfl) (by kernel_rfl) (fun _ _ _ h => h) (Or.inl ⟨by rfl, ?_⟩) hS4 ?_
  rotate_left
  · intro wz hSw
    (try dsimp only at hSw)
    obtain ⟨s0, s1, s2, s3, s4, s5⟩ := hSw
    go_simp
    (try with_reducible rfl)
  try simp only [Act.put, List.setIfInBounds_toArray, List.set_cons_zero, List.set_cons_succ]
  refine sink_take1 (i := 20) (d := some 27) (v := ?_) rfl rfl (by kernel_rfl) (by decide) (by kernel_rfl) (by kernel_rfl) (fun _ _ _ h => h) (Or.inl ⟨by rfl, ?_⟩) hS4 ?_
  rotate_left
  · intro wz hSw
    (try dsimp only at hSw)
    obtain ⟨s0, s1, s2, s3, s4, s5⟩ := hSw
    go_simp
    (try with_reducible rfl)
  try simp only [Act.put, List.setIfInBounds_toArray, List.set_cons_zero, List.set_cons_succ]
  refine sink_two (i := 19) (j := 21) (di := 26) (dj := 28) (X := .cells #[.int .i64 0, .string ⟨#[97]⟩] 23 (0, 0)) (Y := .cells #[.int .i64 0, .string ⟨#[98]⟩] 23 (0, 0)) (mi := fun N => .slice (some ⟨N, 0, none⟩) 1 1) (mj := fun N => .slice (some ⟨N, 0, none⟩) 1 1) (by decide) (by decide) (by kernel_rfl) (by kernel_rfl) (by kernel_rfl) (by intro K wz hK; refine wpOp_step rfl (fun K2 hK2 => ?_); have HK2 := Lib.hid hK2; have HK := Lib.hid hK; clear hK2 hK; (try simp only [Act.put, List.setIfInBounds_toArray, List.set_cons_zero, List.set_cons_succ]); rw [if_pos (by rfl)]; go_simp; exact HK2.out _ _ HK.out) (by intro K wz hK; refine wpOp_step rfl (fun K2 hK2 => ?_); have HK2 := Lib.hid hK2; have HK := Lib.hid hK; clear hK2 hK; (try simp only [Act.put, List.setIfInBounds_toArray, List.set_cons_zero, List.set_cons_succ]); rw [if_pos (by rfl)]; go_simp; exact HK2.out _ _ HK.out) (by intro vz K wz hK; refine wpOp_step rfl (fun K2 hK2 => ?_); have HK2 := Lib.hid hK2; have HK := Lib.hid hK; clear hK2 hK; (try simp only [Act.put, List.setIfInBounds_toArray, List.set_cons_zero, List.set_cons_succ]); rw [if_pos (by rfl)]; go_simp; exact HK2.out _ _ HK.out) (by intro vz K wz hK; refine wpOp_step rfl (fun K2 hK2 => ?_); have HK2 := Lib.hid hK2; have HK := Lib.hid hK; clear hK2 hK; (try simp only [Act.put, List.setIfInBounds_toArray, List.set_cons_zero, List.set_cons_succ]); rw [if_pos (by rfl)]; go_simp; exact HK2.out _ _ HK.out) (fun W hW => KS.out _ (HB4.out.trans (hW.mono HB4.out.size))) ?_
  intro M1 M2 W5 hb hx hy
  have HB5 := Lib.hid (HB4.out.trans (hb.mono HB4.out.size))
  have G5 := Lib.hid (gs_new (l := [((0 : Int), (⟨#[97]⟩ : ByteArray))]) (n := 1) hx rfl)
  have E5 := Lib.hid (gs_new (l := [((0 : Int), (⟨#[98]⟩ : ByteArray))]) (n := 1) hy rfl)
  have hS5 := KS.out _ HB5.out
  clear hb hx hy hS4
  try simp only [Act.put, List.setIfInBounds_toArray, List.set_cons_zero, List.set_cons_succ]
  refine sink_one (i := 22) (by kernel_rfl) ?_
  refine wpOp_step rfl (fun K' hK => ?_)
  have HK := Lib.hid hK
  clear hK
  rw [if_pos (by rfl)]
  go_simp
  refine (compare8 _ _ _ _ _ G5.out E5.out (by decide) (by decide)).mono ?_
  rintro e W6 ⟨rfl, hq⟩
  rw [show cP [((0 : Int), (⟨#[97]⟩ : ByteArray))] [((0 : Int), (⟨#[98]⟩ : ByteArray))] = -1 by decide +kernel]
  have HB6 := Lib.hid (HB5.out.trans ((drB hq _).mono HB5.out.size))
  have hS6 := KS.out _ HB6.out
  refine HK.out _ _ ⟨Or.inr hS6, ?_⟩
  clear HK hq hS5
  try simp only [Act.put, List.setIfInBounds_toArray, List.set_cons_zero, List.set_cons_succ]
  refine sink_take1 (i := 23) (d := some 30) (v := ?_) rfl rfl (by kernel_rfl) (by decide) (by kernel_rfl) (by kernel_rfl) (fun _ _ _ h => h) (Or.inl ⟨by rfl, ?_⟩) hS6 ?_
  rotate_left
  · intro wz hSw
    (try dsimp only at hSw)
    obtain ⟨s0, s1, s2, s3, s4, s5⟩ := hSw
    go_simp
    (try with_reducible rfl)
  try simp only [Act.put, List.setIfInBounds_toArray, List.set_cons_zero, List.set_cons_succ]
  refine sink_take1 (i := 24) (d := some 31) (v := ?_) rfl rfl (by kernel_rfl) (by decide) (by kernel_rfl) (by kernel_rfl) (fun _ _ _ h => h) (Or.inl ⟨by rfl, ?_⟩) hS6 ?_
  rotate_left
  · intro wz hSw
    (try dsimp only at hSw)
    obtain ⟨s0, s1, s2, s3, s4, s5⟩ := hSw
    go_simp
    (try with_reducible rfl)
  try simp only [Act.put, List.setIfInBounds_toArray, List.set_cons_zero, List.set_cons_succ]
  refine sink_take1 (i := 25) (d := some 32) (v := ?_) rfl rfl (by kernel_rfl) (by decide) (by kernel_rfl) (by kernel_rfl) (fun _ _ _ h => h) (Or.inl ⟨by rfl, ?_⟩) hS6 ?_
  rotate_left
  · intro wz hSw
    (try dsimp only at hSw)
    obtain ⟨s0, s1, s2, s3, s4, s5⟩ := hSw
    go_simp
    (try with_reducible rfl)
  try simp only [Act.put, List.setIfInBounds_toArray, List.set_cons_zero, List.set_cons_succ]
  refine sink_take1 (i := 26) (d := some 33) (v := ?_) rfl rfl (by kernel_rfl) (by decide) (by kernel_rfl) (by kernel_rfl) (fun _ _ _ h => h) (Or.inl ⟨by rfl, ?_⟩) hS6 ?_
  rotate_left
  · intro wz hSw
    (try dsimp only at hSw)
    obtain ⟨s0, s1, s2, s3, s4, s5⟩ := hSw
    go_simp
    (try with_reducible rfl)
  try simp only [Act.put, List.setIfInBounds_toArray, List.set_cons_zero, List.set_cons_succ]
  refine sink_take1 (i := 29) (d := some 36) (v := ?_) rfl rfl (by kernel_rfl) (by decide) (by kernel_rfl) (by kernel_rfl) (fun _ _ _ h => h) (Or.inl ⟨by rfl, ?_⟩) hS6 ?_
  rotate_left
  · intro wz hSw
    (try dsimp only at hSw)
    obtain ⟨s0, s1, s2, s3, s4, s5⟩ := hSw
    go_simp
    (try with_reducible rfl)
  try simp only [Act.put, List.setIfInBounds_toArray, List.set_cons_zero, List.set_cons_succ]
  refine sink_one (i := 27) (by kernel_rfl) ?_
  refine wpOp_step rfl (fun K' hK => ?_)
  have HK := Lib.hid hK
  clear hK
  rw [if_pos (by rfl)]
  go_simp
  refine (seg7 _ _ _).mono ?_
  rintro e W7 ⟨rfl, hq⟩
  have HB7 : Hid (Below w5.heap.size w5 W7) := by subst hq; exact HB6.out.alloc HB6.out.size _
  have hS7 := KS.out _ HB7.out
  refine HK.out _ _ ⟨Or.inr hS7, ?_⟩
  clear HK hq hS6
  try simp only [Act.put, List.setIfInBounds_toArray, List.set_cons_zero, List.set_cons_succ]
  refine sink_vee (i := 28) (j := 30) (k := 31) (di := 35) (dj := 37) (dk := 38) (X := .cells #[.int .i64 0, .string ⟨#[97]⟩, .int .i64 2, .string ⟨#[120]⟩] 23 (0, 0)) (Y := .cells #[.int .i64 0, .string ⟨#[97]⟩, .int .i64 3, .string ⟨#[120]⟩] 23 (0, 0)) (Z := .cells #[.int .i64 3, .string ⟨#[120]⟩] 23 (0, 0)) (mi := fun N => .slice (some ⟨N, 0, none⟩) 2 2) (mk := fun N => .slice (some ⟨N, 0, none⟩) 2 2) (c := .agg #[.int .i64 3, .string ⟨#[120]⟩]) (by decide) (by decide) (by decide) (by decide) (by kernel_rfl) (by kernel_rfl) (by kernel_rfl) (by kernel_rfl) (by kernel_rfl) (by intro K wz hK; refine wpOp_step rfl (fun K2 hK2 => ?_); have HK2 := Lib.hid hK2; have HK := Lib.hid hK; clear hK2 hK; (try simp only [Act.put, List.setIfInBounds_toArray, List.set_cons_zero, List.set_cons_succ]); rw [if_pos (by rfl)]; go_simp; exact HK2.out _ _ HK.out) (by intro K wz hK; refine wpOp_step rfl (fun K2 hK2 => ?_); have HK2 := Lib.hid hK2; have HK := Lib.hid hK; clear hK2 hK; (try simp only [Act.put, List.setIfInBounds_toArray, List.set_cons_zero, List.set_cons_succ]); rw [if_pos (by rfl)]; go_simp; refine (seg7 _ _ _).mono ?_; rintro e w2 ⟨rfl, hw2⟩; subst hw2; exact HK2.out _ _ HK.out) (by intro vz K wz hK; refine wpOp_step rfl (fun K2 hK2 => ?_); have HK2 := Lib.hid hK2; have HK := Lib.hid hK; clear hK2 hK; (try simp only [Act.put, List.setIfInBounds_toArray, List.set_cons_zero, List.set_cons_succ]); rw [if_pos (by rfl)]; go_simp; refine (seg7 _ _ _).mono ?_; rintro e w2 ⟨rfl, hw2⟩; subst hw2; exact HK2.out _ _ HK.out) (by intro K wz hK; refine wpOp_step rfl (fun K2 hK2 => ?_); have HK2 := Lib.hid hK2; have HK := Lib.hid hK; clear hK2 hK; (try simp only [Act.put, List.setIfInBounds_toArray, List.set_cons_zero, List.set_cons_succ]); rw [if_pos (by rfl)]; go_simp; exact HK2.out _ _ HK.out) (by intro K wz hK; refine wpOp_step rfl (fun K2 hK2 => ?_); have HK2 := Lib.hid hK2; have HK := Lib.hid hK; clear hK2 hK; (try simp only [Act.put, List.setIfInBounds_toArray, List.set_cons_zero, List.set_cons_succ]); rw [if_pos (by rfl)]; go_simp; exact HK2.out _ _ HK.out) (by intro vz K wz hK; refine wpOp_step rfl (fun K2 hK2 => ?_); have HK2 := Lib.hid hK2; have HK := Lib.hid hK; clear hK2 hK; (try simp only [Act.put, List.setIfInBounds_toArray, List.set_cons_zero, List.set_cons_succ]); rw [if_pos (by rfl)]; go_simp; exact HK2.out _ _ HK.out) (by intro vz K wz hK; refine wpOp_step rfl (fun K2 hK2 => ?_); have HK2 := Lib.hid hK2; have HK := Lib.hid hK; clear hK2 hK; (try simp only [Act.put, List.setIfInBounds_toArray, List.set_cons_zero, List.set_cons_succ]); rw [if_pos (by rfl)]; go_simp; exact HK2.out _ _ HK.out) (fun W hW => KS.out _ (HB7.out.trans (hW.mono HB7.out.size))) ?_
  intro M1 M2 W8 hb hx hy
  have HB8 := Lib.hid (HB7.out.trans (hb.mono HB7.out.size))
  have G8 := Lib.hid (gs_new (l := [((0 : Int), (⟨#[97]⟩ : ByteArray)), ((2 : Int), (⟨#[120]⟩ : ByteArray))]) (n := 2) hx rfl)
  have E8 := Lib.hid (gs_new (l := [((0 : Int), (⟨#[97]⟩ : ByteArray)), ((3 : Int), (⟨#[120]⟩ : ByteArray))]) (n := 2) hy rfl)
  have hS8 := KS.out _ HB8.out
  clear hb hx hy hS7
  try simp only [Act.put, List.setIfInBounds_toArray, List.set_cons_zero, List.set_cons_succ]
  refine sink_one (i := 32) (by kernel_rfl) ?_
  refine wpOp_step rfl (fun K' hK => ?_)
  have HK := Lib.hid hK
  clear hK
  rw [if_pos (by rfl)]
  go_simp
  refine (compare8 _ _ _ _ _ G8.out E8.out (by decide) (by decide)).mono ?_
  rintro e W9 ⟨rfl, hq⟩
  rw [show cP [((0 : Int), (⟨#[97]⟩ : ByteArray)), ((2 : Int), (⟨#[120]⟩ : ByteArray))] [((0 : Int), (⟨#[97]⟩ : ByteArray)), ((3 : Int), (⟨#[120]⟩ : ByteArray))] = -1 by decide +kernel]
  have HB9 := Lib.hid (HB8.out.trans ((drB hq _).mono HB8.out.size))
  have hS9 := KS.out _ HB9.out
  refine HK.out _ _ ⟨Or.inr hS9, ?_⟩
  clear HK hq hS8
  try simp only [Act.put, List.setIfInBounds_toArray, List.set_cons_zero, List.set_cons_succ]
  refine sink_take1 (i := 33) (d := some 40) (v := ?_) rfl rfl (by kernel_rfl) (by decide) (by kernel_rfl) (by kernel_rfl) (fun _ _ _ h => h) (Or.inl ⟨by rfl, ?_⟩) hS9 ?_
  rotate_left
  · intro wz hSw
    (try dsimp only at hSw)
    obtain ⟨s0, s1, s2, s3, s4, s5⟩ := hSw
    go_simp
    (try with_reducible rfl)
  try simp only [Act.put, List.setIfInBounds_toArray, List.set_cons_zero, List.set_cons_succ]
  refine sink_take1 (i := 34) (d := some 41) (v := ?_) rfl rfl (by kernel_rfl) (by decide) (by kernel_rfl) (by kernel_rfl) (fun _ _ _ h => h) (Or.inl ⟨by rfl, ?_⟩) hS9 ?_
  rotate_left
  · intro wz hSw
    (try dsimp only at hSw)
    obtain ⟨s0, s1, s2, s3, s4, s5⟩ := hSw
    go_simp
    (try with_reducible rfl)
  try simp only [Act.put, List.setIfInBounds_toArray, List.set_cons_zero, List.set_cons_succ]
  refine sink_take1 (i := 35) (d := some 42) (v := ?_) rfl rfl (by kernel_rfl) (by decide) (by kernel_rfl) (by kernel_rfl) (fun _ _ _ h => h) (Or.inl ⟨by rfl, ?_⟩) hS9 ?_
  rotate_left
  · intro wz hSw
    (try dsimp only at hSw)
    obtain ⟨s0, s1, s2, s3, s4, s5⟩ := hSw
    go_simp
    (try with_reducible rfl)
  try simp only [Act.put, List.setIfInBounds_toArray, List.set_cons_zero, List.set_cons_succ]
  refine sink_take1 (i := 36) (d := some 43) (v := ?_) rfl rfl (by kernel_rfl) (by decide) (by kernel_rfl) (by kernel_rfl) (fun _ _ _ h => h) (Or.inl ⟨by rfl, ?_⟩) hS9 ?_
  rotate_left
  · intro wz hSw
    (try dsimp only at hSw)
    obtain ⟨s0, s1, s2, s3, s4, s5⟩ := hSw
    go_simp
    (try with_reducible rfl)
  try simp only [Act.put, List.setIfInBounds_toArray, List.set_cons_zero, List.set_cons_succ]
  refine sink_take1 (i := 38) (d := some 45) (v := ?_) rfl rfl (by kernel_rfl) (by decide) (by kernel_rfl) (by kernel_rfl) (fun _ _ _ h => h) (Or.inl ⟨by rfl, ?_⟩) hS9 ?_
  rotate_left
  · intro wz hSw
    (try dsimp only at hSw)
    obtain ⟨s0, s1, s2, s3, s4, s5⟩ := hSw
    go_simp
    (try with_reducible rfl)
  try simp only [Act.put, List.setIfInBounds_toArray, List.set_cons_zero, List.set_cons_succ]
  refine sink_take1 (i := 40) (d := some 47) (v := ?_) rfl rfl (by kernel_rfl) (by decide) (by kernel_rfl) (by kernel_rfl) (fun _ _ _ h => h) (Or.inl ⟨by rfl, ?_⟩) hS9 ?_
  rotate_left
  · intro wz hSw
    (try dsimp only at hSw)
    obtain ⟨s0, s1, s2, s3, s4, s5⟩ := hSw
    go_simp
    (try with_reducible rfl)
  try simp only [Act.put, List.setIfInBounds_toArray, List.set_cons_zero, List.set_cons_succ]
  refine sink_three (i := 37) (j := 39) (k := 41) (di := 44) (dj := 46) (dk := 48) (X := .cells #[.int .i64 0, .string ⟨#[98]⟩] 23 (0, 0)) (Y := .cells #[.int .i64 0, .string ⟨#[97]⟩] 23 (0, 0)) (Z := .cells #[.int .i64 0, .string ⟨#[97]⟩] 23 (0, 0)) (mi := fun N => .slice (some ⟨N, 0, none⟩) 1 1) (mj := fun N => .slice (some ⟨N, 0, none⟩) 1 1) (mk := fun N => .slice (some ⟨N, 0, none⟩) 1 1) (by decide) (by decide) (by decide) (by decide) (by decide) (by decide) (by kernel_rfl) (by kernel_rfl) (by kernel_rfl) (by kernel_rfl) (by kernel_rfl) (by kernel_rfl) (by kernel_rfl) (by intro K wz hK; refine wpOp_step rfl (fun K2 hK2 => ?_); have HK2 := Lib.hid hK2; have HK := Lib.hid hK; clear hK2 hK; (try simp only [Act.put, List.setIfInBounds_toArray, List.set_cons_zero, List.set_cons_succ]); rw [if_pos (by rfl)]; go_simp; exact HK2.out _ _ HK.out) (by intro vz K wz hK; refine wpOp_step rfl (fun K2 hK2 => ?_); have HK2 := Lib.hid hK2; have HK := Lib.hid hK; clear hK2 hK; (try simp only [Act.put, List.setIfInBounds_toArray, List.set_cons_zero, List.set_cons_succ]); rw [if_pos (by rfl)]; go_simp; exact HK2.out _ _ HK.out) (by intro vz K wz hK; refine wpOp_step rfl (fun K2 hK2 => ?_); have HK2 := Lib.hid hK2; have HK := Lib.hid hK; clear hK2 hK; (try simp only [Act.put, List.setIfInBounds_toArray, List.set_cons_zero, List.set_cons_succ]); rw [if_pos (by rfl)]; go_simp; exact HK2.out _ _ HK.out) (by intro vz uz K wz hK; refine wpOp_step rfl (fun K2 hK2 => ?_); have HK2 := Lib.hid hK2; have HK := Lib.hid hK; clear hK2 hK; (try simp only [Act.put, List.setIfInBounds_toArray, List.set_cons_zero, List.set_cons_succ]); rw [if_pos (by rfl)]; go_simp; exact HK2.out _ _ HK.out) (by intro K wz hK; refine wpOp_step rfl (fun K2 hK2 => ?_); have HK2 := Lib.hid hK2; have HK := Lib.hid hK; clear hK2 hK; (try simp only [Act.put, List.setIfInBounds_toArray, List.set_cons_zero, List.set_cons_succ]); rw [if_pos (by rfl)]; go_simp; exact HK2.out _ _ HK.out) (by intro vz K wz hK; refine wpOp_step rfl (fun K2 hK2 => ?_); have HK2 := Lib.hid hK2; have HK := Lib.hid hK; clear hK2 hK; (try simp only [Act.put, List.setIfInBounds_toArray, List.set_cons_zero, List.set_cons_succ]); rw [if_pos (by rfl)]; go_simp; exact HK2.out _ _ HK.out) (by intro vz K wz hK; refine wpOp_step rfl (fun K2 hK2 => ?_); have HK2 := Lib.hid hK2; have HK := Lib.hid hK; clear hK2 hK; (try simp only [Act.put, List.setIfInBounds_toArray, List.set_cons_zero, List.set_cons_succ]); rw [if_pos (by rfl)]; go_simp; exact HK2.out _ _ HK.out) (by intro vz uz K wz hK; refine wpOp_step rfl (fun K2 hK2 => ?_); have HK2 := Lib.hid hK2; have HK := Lib.hid hK; clear hK2 hK; (try simp only [Act.put, List.setIfInBounds_toArray, List.set_cons_zero, List.set_cons_succ]); rw [if_pos (by rfl)]; go_simp; exact HK2.out _ _ HK.out) (by intro K wz hK; refine wpOp_step rfl (fun K2 hK2 => ?_); have HK2 := Lib.hid hK2; have HK := Lib.hid hK; clear hK2 hK; (try simp only [Act.put, List.setIfInBounds_toArray, List.set_cons_zero, List.set_cons_succ]); rw [if_pos (by rfl)]; go_simp; exact HK2.out _ _ HK.out) (by intro vz K wz hK; refine wpOp_step rfl (fun K2 hK2 => ?_); have HK2 := Lib.hid hK2; have HK := Lib.hid hK; clear hK2 hK; (try simp only [Act.put, List.setIfInBounds_toArray, List.set_cons_zero, List.set_cons_succ]); rw [if_pos (by rfl)]; go_simp; exact HK2.out _ _ HK.out) (by intro vz K wz hK; refine wpOp_step rfl (fun K2 hK2 => ?_); have HK2 := Lib.hid hK2; have HK := Lib.hid hK; clear hK2 hK; (try simp only [Act.put, List.setIfInBounds_toArray, List.set_cons_zero, List.set_cons_succ]); rw [if_pos (by rfl)]; go_simp; exact HK2.out _ _ HK.out) (by intro vz uz K wz hK; refine wpOp_step rfl (fun K2 hK2 => ?_); have HK2 := Lib.hid hK2; have HK := Lib.hid hK; clear hK2 hK; (try simp only [Act.put, List.setIfInBounds_toArray, List.set_cons_zero, List.set_cons_succ]); rw [if_pos (by rfl)]; go_simp; exact HK2.out _ _ HK.out) (fun W hW => KS.out _ (HB9.out.trans (hW.mono HB9.out.size))) ?_
  intro M1 M2 M3 W10 hb hx hy hz
  have HB10 := Lib.hid (HB9.out.trans (hb.mono HB9.out.size))
  have G10 := Lib.hid (gs_new (l := [((0 : Int), (⟨#[98]⟩ : ByteArray))]) (n := 1) hx rfl)
  have E10 := Lib.hid (gs_new (l := [((0 : Int), (⟨#[97]⟩ : ByteArray))]) (n := 1) hy rfl)
  have F10 := Lib.hid (gs_new (l := [((0 : Int), (⟨#[97]⟩ : ByteArray))]) (n := 1) hz rfl)
  have hS10 := KS.out _ HB10.out
  clear hb hx hy hz hS9
  try simp only [Act.put, List.setIfInBounds_toArray, List.set_cons_zero, List.set_cons_succ]
  refine sink_one (i := 42) (by kernel_rfl) ?_
  refine wpOp_step rfl (fun K' hK => ?_)
  have HK := Lib.hid hK
  clear hK
  rw [if_pos (by rfl)]
  go_simp
  have G11 := Lib.hid (gss_three G10.out E10.out F10.out)
  have HB11 := Lib.hid (HB10.out.alloc HB10.out.size (.cells #[.slice (some ⟨M1, 0, none⟩) 1 1, .slice (some ⟨M2, 0, none⟩) 1 1, .slice (some ⟨M3, 0, none⟩) 1 1] 26 (0, 0)))
  have hS11 := KS.out _ HB11.out
  refine HK.out _ _ ⟨Or.inr hS11, ?_⟩
  clear HK hS10
  try simp only [Act.put, List.setIfInBounds_toArray, List.set_cons_zero, List.set_cons_succ]
  refine sink_one (i := 43) (by kernel_rfl) ?_
  refine wpOp_step rfl (fun K' hK => ?_)
  have HK := Lib.hid hK
  clear hK
  rw [if_pos (by rfl)]
  go_simp
  refine (first9 _ _ _ G11.out (by decide) few3).mono ?_
  rintro e W12 ⟨rfl, hq⟩
  rw [show fi [[((0 : Int), (⟨#[98]⟩ : ByteArray))], [((0 : Int), (⟨#[97]⟩ : ByteArray))], [((0 : Int), (⟨#[97]⟩ : ByteArray))]] (List.length [[((0 : Int), (⟨#[98]⟩ : ByteArray))], [((0 : Int), (⟨#[97]⟩ : ByteArray))], [((0 : Int), (⟨#[97]⟩ : ByteArray))]]) = 1 by decide +kernel]
  have HB12 := Lib.hid (HB11.out.trans ((drB hq _).mono HB11.out.size))
  have hS12 := KS.out _ HB12.out
  refine HK.out _ _ ⟨Or.inr hS12, ?_⟩
  clear HK hq hS11
  try simp only [Act.put, List.setIfInBounds_toArray, List.set_cons_zero, List.set_cons_succ]
  refine sink_take1 (i := 44) (d := some 51) (v := ?_) rfl rfl (by kernel_rfl) (by decide) (by kernel_rfl) (by kernel_rfl) (fun _ _ _ h => h) (Or.inl ⟨by rfl, ?_⟩) hS12 ?_
  rotate_left
  · intro wz hSw
    (try dsimp only at hSw)
    obtain ⟨s0, s1, s2, s3, s4, s5⟩ := hSw
    go_simp
    (try with_reducible rfl)
  try simp only [Act.put, List.setIfInBounds_toArray, List.set_cons_zero, List.set_cons_succ]
  refine sink_take1 (i := 45) (d := some 52) (v := ?_) rfl rfl (by kernel_rfl) (by decide) (by kernel_rfl) (by kernel_rfl) (fun _ _ _ h => h) (Or.inl ⟨by rfl, ?_⟩) hS12 ?_
  rotate_left
  · intro wz hSw
    (try dsimp only at hSw)
    obtain ⟨s0, s1, s2, s3, s4, s5⟩ := hSw
    go_simp
    (try with_reducible rfl)
  try simp only [Act.put, List.setIfInBounds_toArray, List.set_cons_zero, List.set_cons_succ]
  refine sink_take1 (i := 46) (d := some 53) (v := ?_) rfl rfl (by kernel_rfl) (by decide) (by kernel_rfl) (by kernel_rfl) (fun _ _ _ h => h) (Or.inl ⟨by rfl, ?_⟩) hS12 ?_
  rotate_left
  · intro wz hSw
    (try dsimp only at hSw)
    obtain ⟨s0, s1, s2, s3, s4, s5⟩ := hSw
    go_simp
    (try with_reducible rfl)
  try simp only [Act.put, List.setIfInBounds_toArray, List.set_cons_zero, List.set_cons_succ]
  refine sink_one (i := 47) (by kernel_rfl) ?_
  refine wpOp_step rfl (fun K' hK => ?_)
  have HK := Lib.hid hK
  clear hK
  rw [if_pos (by rfl)]
  go_simp
  refine (first9 _ [] _ (gss_nil _) (by decide) (fun _ h => by cases h)).mono ?_
  rintro e W13 ⟨rfl, hq⟩
  rw [show fi [] (List.length ([] : List (List Sg))) = -1 by decide +kernel]
  have HB13 := Lib.hid (HB12.out.trans ((drB hq _).mono HB12.out.size))
  have hS13 := KS.out _ HB13.out
  refine HK.out _ _ ⟨Or.inr hS13, ?_⟩
  clear HK hq hS12
  try simp only [Act.put, List.setIfInBounds_toArray, List.set_cons_zero, List.set_cons_succ]
  refine sink_take1 (i := 48) (d := some 55) (v := ?_) rfl rfl (by kernel_rfl) (by decide) (by kernel_rfl) (by kernel_rfl) (fun _ _ _ h => h) (Or.inl ⟨by rfl, ?_⟩) hS13 ?_
  rotate_left
  · intro wz hSw
    (try dsimp only at hSw)
    obtain ⟨s0, s1, s2, s3, s4, s5⟩ := hSw
    go_simp
    (try with_reducible rfl)
  try simp only [Act.put, List.setIfInBounds_toArray, List.set_cons_zero, List.set_cons_succ]
  refine sink_take1 (i := 49) (d := some 56) (v := ?_) rfl rfl (by kernel_rfl) (by decide) (by kernel_rfl) (by kernel_rfl) (fun _ _ _ h => h) (Or.inl ⟨by rfl, ?_⟩) hS13 ?_
  rotate_left
  · intro wz hSw
    (try dsimp only at hSw)
    obtain ⟨s0, s1, s2, s3, s4, s5⟩ := hSw
    go_simp
    (try with_reducible rfl)
  try simp only [Act.put, List.setIfInBounds_toArray, List.set_cons_zero, List.set_cons_succ]
  refine sink_take1 (i := 50) (d := some 0) (v := ?_) rfl rfl (by kernel_rfl) (by decide) (by kernel_rfl) (by kernel_rfl) (fun _ _ _ h => h) (Or.inl ⟨by rfl, ?_⟩) hS13 ?_
  rotate_left
  · intro wz hSw
    (try dsimp only at hSw)
    obtain ⟨s0, s1, s2, s3, s4, s5⟩ := hSw
    go_simp
    (try with_reducible rfl)
  try simp only [Act.put, List.setIfInBounds_toArray, List.set_cons_zero, List.set_cons_succ]
  refine sink_done (by kernel_rfl) ?_
  go_wp2
  go_ret
  exact ⟨rfl, HBW.out.trans (HB13.out.mono HBW.out.size)⟩
end Go.Proofs.Ytapfepmioiacbaa
