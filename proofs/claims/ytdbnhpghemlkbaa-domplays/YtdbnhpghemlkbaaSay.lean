/-
  Attrs, Say.
-/
import Derived.Test.YtdbnhpghemlkbaaFld
namespace Go.Proofs.Ytdbnhpghemlkbaa
open Go.RowKit Go.PlainAid Dm
set_option maxRecDepth 100000

theorem owns_shape {w : World} {B e size n : Nat} {v : Value} {xs : List Value} (h : w.ownsRow B e size v n xs) : ∃ A c, v = .slice A n c := by
  rcases h.2 with ⟨rfl, h1⟩ | ⟨g, cap, cur, rfl, _⟩
  · exact ⟨none, 0, by rw [h1]⟩
  · exact ⟨_, _, rfl⟩

section
variable {ro : Ros} {D : Nat} {s : St}
set_option maxHeartbeats 1600000 in
theorem attrs19_no (i : Int) (v : Value) (w : World) (h : Dom mP ro w D s) (hv : Inv s) (hm : ¬ s.mayAttrs i) :
    Calls Try.prog 19 #[.pointer (some ⟨D, 0, none⟩), .int .i64 i, v] w (No w) := by
  rw [may_attrs hv] at hm
  have hk : (kindI (ndI s i) == 1) = false := by simpa using hm
  have G := Lib.hid (get34 i w h hv)
  clear h hv
  go_enter Try.func19, Try.ntmps19
  go_wp2_with fail
  refine G.out.mono ?_
  rintro e w1 ⟨a1, k1, rfl, ha, hk1, hb⟩
  obtain ⟨A, a, rfl, _, _⟩ := ha.shape
  obtain ⟨K, k, rfl, _, _⟩ := hk1.shape
  clear ha hk1
  go_wp2
  go_ret
  exact ⟨rfl, hb⟩

set_option maxHeartbeats 3200000 in
theorem attrs19_yes (i : Nat) (v : Value) (l : List (Tx × Tx)) (w : World) (h : Dom mP ro w D s) (hv : Inv s) (hm : s.mayAttrs i) (hl : w.ownsRow 0 45 2 v l.length (l.flatMap atC)) (hn : l.length ≤ 100000000) :
    Calls Try.prog 19 #[.pointer (some ⟨D, 0, none⟩), .int .i64 i, v] w (Yes mP ro D (s.setAttrs i l) w) := by
  obtain ⟨k, e0, hi, _, _⟩ := lives_nat hv hm.1
  rw [may_attrs hv] at hm
  obtain rfl : i = k := by omega
  have hk : (kindI (ndI s i) == 1) = true := by simpa using hm
  have G := Lib.hid (get34 i w h hv)
  obtain ⟨N, c, fv, av, kv, h⟩ := h
  have R0 := Lib.hid h
  have HL := Lib.hid hl
  clear h hv hl e0
  go_enter Try.func19, Try.ntmps19
  go_wp2_with fail
  refine G.out.mono ?_
  rintro e w1 ⟨a1, k1, rfl, ha, hk1, hb⟩
  obtain ⟨A, a, rfl, _, _⟩ := ha.shape
  obtain ⟨K, k, rfl, _, _⟩ := hk1.shape
  clear ha hk1
  have HB := Lib.hid hb
  have R1 := Lib.hid (R0.out.call hb)
  clear hb
  go_wp2_with fail
  have hi2 : (i : Int) < (s.top : Int) + 1 := by omega
  have SS : ∀ W, Below w1.heap.size w1 W → W.cell? ⟨D, 0, none⟩ = some (.slice (some ⟨N, 0, none⟩) (s.top + 1) c) ∧ W.cell? ⟨N, i * 7 + 4, none⟩ = some (av i) ∧ W.frozen? ⟨N, i * 7 + 4, none⟩ = false := fun W hW => ⟨(R1.out.call hW).c0, ((R1.out.call hW).nc hi).2.2.2.2.1, (R1.out.call hW).nf _⟩
  have SH := Lib.hid SS
  clear SS
  refine wp_region_ordN 9 ((true, 0) :: (true, 1) :: (true, 2) :: (true, 3) :: (true, 4) :: (true, 5) :: (false, 6) :: (true, 7) :: (true, 8) :: (false, 9) :: []) (fun W => Below w1.heap.size w1 W) (by kernel_rfl) (by kernel_rfl) (by decide) (by kernel_rfl) (fun d _ _ _ _ h => by cases d <;> exact h) ((Below.refl _ w1).drew) ?_
  refine ordn_q (d := some 12) (v := ?_) rfl rfl (Or.inl ⟨by rfl, ?_⟩) ?_
  rotate_left
  · intro wz hSw
    obtain ⟨c0, n4, g4⟩ := SH.out wz hSw
    go_simp
    (try with_reducible rfl)
  try simp only [Act.put, List.setIfInBounds_toArray, List.set_cons_zero, List.set_cons_succ]
  refine ordn_q (d := some 13) (v := ?_) rfl rfl (Or.inl ⟨by rfl, ?_⟩) ?_
  rotate_left
  · intro wz hSw
    obtain ⟨c0, n4, g4⟩ := SH.out wz hSw
    go_simp
    (try with_reducible rfl)
  try simp only [Act.put, List.setIfInBounds_toArray, List.set_cons_zero, List.set_cons_succ]
  refine ordn_q (d := some 14) (v := ?_) rfl rfl (Or.inl ⟨by rfl, ?_⟩) ?_
  rotate_left
  · intro wz hSw
    obtain ⟨c0, n4, g4⟩ := SH.out wz hSw
    go_simp
    (try with_reducible rfl)
  try simp only [Act.put, List.setIfInBounds_toArray, List.set_cons_zero, List.set_cons_succ]
  refine ordn_q (d := some 15) (v := ?_) rfl rfl (Or.inl ⟨by rfl, ?_⟩) ?_
  rotate_left
  · intro wz hSw
    obtain ⟨c0, n4, g4⟩ := SH.out wz hSw
    go_simp
    (try with_reducible rfl)
  try simp only [Act.put, List.setIfInBounds_toArray, List.set_cons_zero, List.set_cons_succ]
  refine ordn_q (d := some 16) (v := ?_) rfl rfl (Or.inl ⟨by rfl, ?_⟩) ?_
  rotate_left
  · intro wz hSw
    obtain ⟨c0, n4, g4⟩ := SH.out wz hSw
    go_simp
    (try with_reducible rfl)
  try simp only [Act.put, List.setIfInBounds_toArray, List.set_cons_zero, List.set_cons_succ]
  refine ordn_q (d := some 17) (v := ?_) rfl rfl (Or.inl ⟨by rfl, ?_⟩) ?_
  rotate_left
  · intro wz hSw
    obtain ⟨c0, n4, g4⟩ := SH.out wz hSw
    go_simp
    (try with_reducible rfl)
  try simp only [Act.put, List.setIfInBounds_toArray, List.set_cons_zero, List.set_cons_succ]
  refine ordn_l ?_
  refine wpOp_step rfl (fun K' hK => ?_)
  have HK := Lib.hid hK
  clear hK
  rw [if_pos (by rfl)]
  go_simp
  refine (listOf42 v l.length (l.flatMap atC) w1.drew (owns_same HL.out (fun g hg => (HB.out.block g (HL.out.lt g hg).2))) (atC_one l) hn).mono ?_
  rintro e w2 ⟨v2, rfl, h2, hb2⟩
  have TU := Lib.hid (R1.out.drew.setA hi l hb2 h2 (fun _ => rfl))
  have B2 := Lib.hid ((Below.refl w1.heap.size w1).drew.trans hb2)
  obtain ⟨A, c2, rfl⟩ := owns_shape h2
  clear h2 hb2
  refine HK.out _ _ ⟨B2.out, ?_⟩
  clear HK
  try change OrdN _ _ _ _ _ _ (Act.put _ (some 18) _) _
  try simp only [Act.put, List.setIfInBounds_toArray, List.set_cons_zero, List.set_cons_succ]
  refine ordn_q (d := some 19) (v := ?_) rfl rfl (Or.inl ⟨by rfl, ?_⟩) ?_
  rotate_left
  · intro wz hSw
    obtain ⟨c0, n4, g4⟩ := SH.out wz hSw
    go_simp
    (try with_reducible rfl)
  try simp only [Act.put, List.setIfInBounds_toArray, List.set_cons_zero, List.set_cons_succ]
  refine ordn_q (d := some 20) (v := ?_) rfl rfl (Or.inl ⟨by rfl, ?_⟩) ?_
  rotate_left
  · intro wz hSw
    obtain ⟨c0, n4, g4⟩ := SH.out wz hSw
    go_simp
    (try with_reducible rfl)
  try simp only [Act.put, List.setIfInBounds_toArray, List.set_cons_zero, List.set_cons_succ]
  refine ordn_last ?_
  refine wpOp_step rfl (fun K' hK => ?_)
  have HK := Lib.hid hK
  clear hK
  rw [if_pos (by rfl)]
  obtain ⟨c0, n4, g4⟩ := SH.out _ B2.out
  go_simp
  refine HK.out _ _ ?_
  clear HK
  try simp only [Act.put, List.setIfInBounds_toArray, List.set_cons_zero, List.set_cons_succ]

  clear SH c0 n4 g4
  replace TU := Lib.hid (TU.out.pre HB.out.drew)
  generalize w2.setCell _ _ = w3 at *
  go_wp2
  go_ret
  exact ⟨rfl, TU.out⟩

set_option maxHeartbeats 1600000 in
theorem say21_no (i : Int) (x : ByteArray) (w : World) (h : Dom mP ro w D s) (hv : Inv s) (hm : ¬ s.maySay i) :
    Calls Try.prog 21 #[.pointer (some ⟨D, 0, none⟩), .int .i64 i, .string x] w (No w) := by
  rw [may_say hv] at hm
  have hk : (kindI (ndI s i) == 2) = false := by simpa using hm
  have G := Lib.hid (get34 i w h hv)
  clear h hv
  go_enter Try.func21, Try.ntmps21
  go_wp2_with fail
  refine G.out.mono ?_
  rintro e w1 ⟨a1, k1, rfl, ha, hk1, hb⟩
  obtain ⟨A, a, rfl, _, _⟩ := ha.shape
  obtain ⟨K, k, rfl, _, _⟩ := hk1.shape
  clear ha hk1
  go_wp2
  go_ret
  exact ⟨rfl, hb⟩

set_option maxHeartbeats 1600000 in
theorem say21_yes (i : Nat) (x : ByteArray) (w : World) (h : Dom mP ro w D s) (hv : Inv s) (hm : s.maySay i) :
    Calls Try.prog 21 #[.pointer (some ⟨D, 0, none⟩), .int .i64 i, .string x] w (Yes mP ro D (s.setText i x) w) := by
  obtain ⟨k, e0, hi, _, _⟩ := lives_nat hv hm.1
  rw [may_say hv] at hm
  obtain rfl : i = k := by omega
  have hk : (kindI (ndI s i) == 2) = true := by simpa using hm
  have G := Lib.hid (get34 i w h hv)
  obtain ⟨N, c, fv, av, kv, h⟩ := h
  have R0 := Lib.hid h
  clear h hv e0
  go_enter Try.func21, Try.ntmps21
  go_wp2_with fail
  refine G.out.mono ?_
  rintro e w1 ⟨a1, k1, rfl, ha, hk1, hb⟩
  obtain ⟨A, a, rfl, _, _⟩ := ha.shape
  obtain ⟨K, k, rfl, _, _⟩ := hk1.shape
  clear ha hk1
  have R1 := Lib.hid (R0.out.call hb)
  have HB := Lib.hid hb
  clear hb
  have hi2 : (i : Int) < (s.top : Int) + 1 := by omega
  have c0 := R1.out.c0
  obtain ⟨_, _, _, n3, _, _, _⟩ := R1.out.nc hi
  have g3 := R1.out.nf (i * 7 + 3)
  have TU := Lib.hid ((R1.out.setT hi x (fun _ => rfl)).pre HB.out)
  go_wp2
  go_ret
  exact ⟨rfl, TU.out⟩
end
end Go.Proofs.Ytdbnhpghemlkbaa
