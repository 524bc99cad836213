/-
  TrieRuns, walked.
-/
import Derived.Test.YtgiepgbjkkhniaaTok
namespace Go.Proofs.Ytgiepgbjkkhniaa
open Go.RowKit Go.PlainAid
set_option maxRecDepth 100000
theorem gss_three {W : World} {b : Nat} {u1 u2 u3 : Value} {l1 l2 l3 : List Sg} (h : W.heap[b]? = some (.cells #[u1, u2, u3] 26 (0, 0))) (h1 : Gs W u1 l1) (h2 : Gs W u2 l2) (h3 : Gs W u3 l3) : Gss W (.slice (some ⟨b, 0, none⟩) 3 3) [l1, l2, l3] := by
  refine ⟨some ⟨b, 0, none⟩, 3, rfl, Nat.le_refl _, (fun e => by cases e), fun i hi => ?_⟩
  have hi : i < 3 := hi
  obtain rfl | rfl | rfl : i = 0 ∨ i = 1 ∨ i = 2 := by omega
  · exact ⟨b, 0, u1, rfl, by rw [blk_cell h]; rfl, h1⟩
  · exact ⟨b, 0, u2, rfl, by rw [blk_cell h]; rfl, h2⟩
  · exact ⟨b, 0, u3, rfl, by rw [blk_cell h]; rfl, h3⟩
theorem ss_blk {W : World} {b n : Nat} {l : List ByteArray} (h : W.heap[b]? = some (.cells (l.map Value.string).toArray 9 (0, 0))) (hn : l.length = n) : Ss W (.slice (some ⟨b, 0, none⟩) n n) l := by
  subst hn
  refine ⟨_, _, rfl, Nat.le_refl _, (fun e => by cases e), fun i hi => ⟨b, 0, rfl, ?_⟩⟩
  rw [blk_cell h]
  simp [List.getD, hi]
theorem ps_one {W : World} {b : Nat} {x y : ByteArray} (h : W.heap[b]? = some (.cells #[.string x, .string y] 33 (0, 0))) : Ps W (.slice (some ⟨b, 0, none⟩) 1 1) [(x, y)] := by
  refine ⟨_, _, rfl, Nat.le_refl _, (fun e => by cases e), fun i hi => ⟨b, 0, rfl, ?_, ?_⟩⟩
  all_goals
    obtain rfl : i = 0 := by simp at hi; omega
    rw [blk_cell h]
    rfl
theorem ni_three {W : World} {b : Nat} {x y z : Nat} (h : W.heap[b]? = some (.cells #[.int .i64 x, .int .i64 y, .int .i64 z] 3 (0, 0))) : Ni W (.slice (some ⟨b, 0, none⟩) 3 3) [x, y, z] := by
  refine ⟨_, _, rfl, Nat.le_refl _, (fun e => by cases e), fun i hi => ⟨b, 0, rfl, ?_⟩⟩
  have hi : i < 3 := hi
  obtain rfl | rfl | rfl : i = 0 ∨ i = 1 ∨ i = 2 := by omega
  all_goals
    rw [blk_cell h]
    rfl
theorem blkAt {w : World} {n : Nat} (h : w.heap.size = n) (x : Obj) : (w.alloc x).heap[n]? = some x := by
  subst h
  exact blk_new w x
def rW (w : World) : World := ((((((((w.alloc (.cells #[.int .i64 0, .string ⟨#[97]⟩] 23 (0, 0))).alloc (.cells #[.int .i64 0, .string ⟨#[98]⟩] 23 (0, 0))).alloc (.cells #[.int .i64 1, .string ⟨#[120]⟩] 23 (0, 0))).alloc (.cells #[.int .i64 1, .string ⟨#[121]⟩] 23 (0, 0))).alloc
  (.cells #[.int .i64 0, .string ⟨#[97]⟩, .int .i64 1, .string ⟨#[120]⟩] 23 (0, 0))).alloc (.cells #[.int .i64 1, .string ⟨#[121]⟩, .int .i64 0, .string ⟨#[98]⟩] 23 (0, 0))).alloc (.cells #[.int .i64 0, .string ⟨#[97]⟩, .int .i64 0, .string ⟨#[98]⟩] 23 (0, 0))).alloc
  (.cells #[.slice (some ⟨w.heap.size + 1 + 1 + 1 + 1, 0, none⟩) 2 2, .slice (some ⟨w.heap.size + 1 + 1 + 1 + 1 + 1, 0, none⟩) 2 2, .slice (some ⟨w.heap.size + 1 + 1 + 1 + 1 + 1 + 1, 0, none⟩) 2 2] 26 (0, 0)))
theorem rW_gss (w : World) : Gss (rW w) (.slice (some ⟨w.heap.size + 1 + 1 + 1 + 1 + 1 + 1 + 1, 0, none⟩) 3 3) rl := by
  refine gss_three (blkAt (by simp) _) (gs_new ?_ rfl) (gs_new ?_ rfl) (gs_new ?_ rfl)
  · exact blk_alloc (blk_alloc (blk_alloc (blkAt (by simp) _) _) _) _
  · exact blk_alloc (blk_alloc (blkAt (by simp) _) _) _
  · exact blk_alloc (blkAt (by simp) _) _
theorem rW_below (w : World) : Below w.heap.size w (rW w) := by
  unfold rW
  repeat' (first | exact Below.refl _ _ | refine Below.alloc ?_ (by simp <;> omega) _)
theorem ssz : ∀ s ∈ [(⟨#[97]⟩ : ByteArray), ⟨#[98]⟩], s.size ≤ 100000000 := by decide +kernel
theorem ssz2 : ∀ s ∈ [(⟨#[97]⟩ : ByteArray), ⟨#[99]⟩], s.size ≤ 100000000 := by decide +kernel
theorem ssz3 : ∀ s ∈ [(⟨#[122]⟩ : ByteArray)], s.size ≤ 100000000 := by decide +kernel
theorem al1 {w W : World} (h : Below w.heap.size w W) (o : Obj) : Below w.heap.size w (W.alloc o) := h.alloc h.size o
set_option maxHeartbeats 3200000 in
theorem trieRuns_any (w : World) : Calls Try.prog 3 #[] w fun e w' => e = .returned (.bool true) ∧ Below w.heap.size w w' := by
  have HG := Lib.hid (trieNew _ rl (rW w) (rW_gss w) (by decide))
  have HB := Lib.hid (rW_below w)
  have f1 : aN [2, 0, 1] = 2 := rfl
  have f2 : aN [0] = 0 := rfl
  go_enter Try.func3, Try.ntmps3
  go_wp2_with fail
  refine HG.out.mono ?_
  rintro e w1 ⟨T, rfl, ht, hb⟩
  have T1 := Lib.hid ht
  have B1 := Lib.hid (HB.out.trans (hb.mono HB.out.size))
  clear ht hb HG HB
  have B1a := Lib.hid ((Below.refl w1.heap.size w1).alloc (Nat.le_refl _) (.cells #[.string ⟨#[97]⟩, .string ⟨#[98]⟩] 9 (0, 0)))
  have X1 := Lib.hid (trieFind (T1.out.call B1a.out) (.slice (some ⟨w1.heap.size, 0, none⟩) 2 2) [⟨#[97]⟩, ⟨#[98]⟩] (ss_blk (blk_new w1 _) rfl) ssz (by decide) rl_ab)
  go_wp2_with fail
  refine X1.out.mono ?_
  rintro e w2 ⟨v2, rfl, hp2, hb2⟩
  have T2 := Lib.hid ((T1.out.call B1a.out).call hb2)
  have B2 := Lib.hid (B1.out.trans ((B1a.out.trans (hb2.mono B1a.out.size)).mono B1.out.size))
  clear hp2 hb2 X1 B1a T1 B1
  have B2a := Lib.hid ((Below.refl w2.heap.size w2).alloc (Nat.le_refl _) (.cells #[.string ⟨#[97]⟩, .string ⟨#[99]⟩] 9 (0, 0)))
  have X2 := Lib.hid (trieFind (T2.out.call B2a.out) (.slice (some ⟨w2.heap.size, 0, none⟩) 2 2) [⟨#[97]⟩, ⟨#[99]⟩] (ss_blk (blk_new w2 _) rfl) ssz2 (by decide) rl_ac)
  go_wp2_with fail
  refine X2.out.mono ?_
  rintro e w3 ⟨v3, rfl, hp3, hb3⟩
  have P3 := Lib.hid hp3
  have T3 := Lib.hid ((T2.out.call B2a.out).call hb3)
  have B3 := Lib.hid (B2.out.trans ((B2a.out.trans (hb3.mono B2a.out.size)).mono B2.out.size))
  clear hp3 hb3 X2 B2a T2 B2
  have B3a := Lib.hid ((Below.refl w3.heap.size w3).alloc (Nat.le_refl _) (.cells #[.string ⟨#[122]⟩] 9 (0, 0)))
  have X3 := Lib.hid (trieFind (T3.out.call B3a.out) (.slice (some ⟨w3.heap.size, 0, none⟩) 1 1) [⟨#[122]⟩] (ss_blk (blk_new w3 _) rfl) ssz3 (by decide) rl_z)
  go_wp2_with fail
  refine X3.out.mono ?_
  rintro e w4 ⟨v4, rfl, hp4, hb4⟩
  have T4 := Lib.hid ((T3.out.call B3a.out).call hb4)
  have P4 := Lib.hid ((P3.out.call B3a.out).call hb4)
  have B4 := Lib.hid (B3.out.trans ((B3a.out.trans (hb4.mono B3a.out.size)).mono B3.out.size))
  clear hp4 hb4 X3 B3a T3 B3 P3
  have B4a := Lib.hid ((Below.refl w4.heap.size w4).alloc (Nat.le_refl _) (.cells #[.string ⟨#[120]⟩, .string ⟨#[99]⟩] 33 (0, 0)))
  have X4 := Lib.hid (sameP v3 (.slice (some ⟨w4.heap.size, 0, none⟩) 1 1) _ [(⟨#[120]⟩, ⟨#[99]⟩)] _ (P4.out.call B4a.out) (ps_one (blk_new w4 _)) (by rw [rl_l]; simp))
  rw [rl_l] at X4
  obtain ⟨Av, nv, cv, hv⟩ : ∃ A n c, v3 = .slice A n c := by
    obtain ⟨A, c, e, _⟩ := P4.out
    exact ⟨_, _, _, e⟩
  subst hv
  have q1 : decide ([((⟨#[120]⟩ : ByteArray), (⟨#[99]⟩ : ByteArray))] = [(⟨#[120]⟩, ⟨#[99]⟩)]) = true := by simp
  rw [q1] at X4
  clear q1
  go_wp2_with fail
  refine X4.out.mono ?_
  rintro e w5 ⟨rfl, hb5⟩
  have T5 := Lib.hid ((T4.out.call B4a.out).call hb5)
  have B5 := Lib.hid (B4.out.trans ((B4a.out.trans (hb5.mono B4a.out.size)).mono B4.out.size))
  clear hb5 X4 B4a T4 B4 P4
  have B5a := Lib.hid ((Below.refl w5.heap.size w5).alloc (Nat.le_refl _) (.cells #[.string ⟨#[97]⟩, .string ⟨#[98]⟩] 9 (0, 0)))
  have X5 := Lib.hid (trieAll (T5.out.call B5a.out) (.slice (some ⟨w5.heap.size, 0, none⟩) 2 2) [⟨#[97]⟩, ⟨#[98]⟩] (ss_blk (blk_new w5 _) rfl) ssz rl_ab)
  go_wp2_with fail
  refine X5.out.mono ?_
  rintro e w6 ⟨v6, rfl, hn6, hb6⟩
  have T6 := Lib.hid ((T5.out.call B5a.out).call hb6)
  have N6 := Lib.hid hn6
  have B6 := Lib.hid (B5.out.trans ((B5a.out.trans (hb6.mono B5a.out.size)).mono B5.out.size))
  obtain ⟨A6, n6, c6, rfl⟩ := hn6.shape
  clear hn6 hb6 X5 B5a T5 B5
  have B6a := Lib.hid ((Below.refl w6.heap.size w6).alloc (Nat.le_refl _) (.cells #[.int .i64 2, .int .i64 0, .int .i64 1] 3 (0, 0)))
  have X6 := Lib.hid (sameI16 _ (.slice (some ⟨w6.heap.size, 0, none⟩) 3 3) _ [2, 0, 1] _ (N6.out.call B6a.out) (ni_three (blk_new w6 _)) (by simp) (by simp))
  have q2 : decide (([2, 0, 1] : List Nat) = [2, 0, 1]) = true := by simp
  rw [q2] at X6
  clear q2
  go_wp2_with fail
  refine X6.out.mono ?_
  rintro e w7 ⟨rfl, hq7⟩
  have D7 := Lib.hid (drB hq7 (w6.alloc (.cells #[.int .i64 2, .int .i64 0, .int .i64 1] 3 (0, 0))).heap.size)
  have T7 := Lib.hid ((T6.out.call B6a.out).call D7.out)
  have B7 := Lib.hid (B6.out.trans ((B6a.out.trans (D7.out.mono B6a.out.size)).mono B6.out.size))
  clear hq7 D7 X6 B6a T6 B6 N6
  have X7 := Lib.hid (trieLen T7.out)
  rw [rl_len] at X7
  go_wp2_with (first | (go_at_call 11; refine X7.out.mono ?_; rintro e w8 ⟨rfl, hw8⟩; subst hw8))
  go_ret
  exact ⟨rfl, B7.out⟩
end Go.Proofs.Ytgiepgbjkkhniaa
