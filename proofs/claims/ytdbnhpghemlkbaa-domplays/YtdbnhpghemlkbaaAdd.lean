/-
  add, Element, Text: a node more.
-/
import Derived.Test.YtdbnhpghemlkbaaMex
import Derived.Test.YtdbnhpghemlkbaaOrd
import Derived.Deep.AppendLies
import Derived.Lib.Strings
import Derived.Lib.Bytes
namespace Go.Proofs.Ytdbnhpghemlkbaa
open Go.RowKit Go.PlainAid Dm
set_option maxRecDepth 100000

/-- what add, Element, Text, Make answer -/
def AddP (M : Mo) (ro : Ros) (D : Nat) (s : St) (n : Nd) (w : World) (e : Ending) (w' : World) : Prop := e = .returned (.int .i64 (s.fresh : Nat)) ∧ Turn M ro D (s.make n) (fun _ => True) w w'

section
variable {ro : Ros} {D N c : Nat} {fv : Value} {av kv : Nat → Value} {s : St}

set_option maxHeartbeats 3200000 in
theorem add33_push (tag key txt : ByteArray) (w : World) (h : Rel mP ro w D N c fv av kv s) (hf : s.freed = []) (ht : s.top ≤ 1000000) :
    Calls Try.prog 33 #[.pointer (some ⟨D, 0, none⟩), .agg #[.int .i64 (kindI ⟨true, tag, key, txt, [], 0, []⟩), .string tag, .string key, .string txt, .slice none 0 0, .int .i64 0, .slice none 0 0]] w (AddP mP ro D s ⟨true, tag, key, txt, [], 0, []⟩ w) := by
  have hB := Lib.hid ((Below.refl _ w).alloc (Nat.le_refl _) (.cells #[.int .i64 (kindI ⟨true, tag, key, txt, [], 0, []⟩), .string tag, .string key, .string txt, .slice none 0 0, .int .i64 0, .slice none 0 0] 60 (0, 0)))
  have R1 := Lib.hid (h.alloc (.cells #[.int .i64 (kindI ⟨true, tag, key, txt, [], 0, []⟩), .string tag, .string key, .string txt, .slice none 0 0, .int .i64 0, .slice none 0 0] 60 (0, 0)))
  have TB := Lib.hid (blk_new w (.cells #[.int .i64 (kindI ⟨true, tag, key, txt, [], 0, []⟩), .string tag, .string key, .string txt, .slice none 0 0, .int .i64 0, .slice none 0 0] 60 (0, 0)))
  have hlt := h.nlt
  have LT := Lib.hid h.lt
  obtain ⟨F, f, e1, _, _⟩ := h.fr.shape
  have hr0 : s.freed.reverse.length = 0 := by rw [hf]; rfl
  rw [hr0] at e1
  subst e1
  have c1 := R1.out.c1
  have hfr : s.fresh = s.top + 1 := by unfold St.fresh; rw [hf]
  have hmk : s.make ⟨true, tag, key, txt, [], 0, []⟩ = { s.put (s.top + 1) ⟨true, tag, key, txt, [], 0, []⟩ with top := s.top + 1 } := by unfold St.make; rw [hf]
  have HM := Lib.hid hmk
  have HF := Lib.hid hfr
  clear hmk hfr h hf
  go_enter Try.func33, Try.ntmps33
  go_wp2_with fail
  generalize w.alloc _ = w1 at *
  clear c1
  have SS : ∀ W, Kp (fun k => k = N) w1 W → W.cell? ⟨D, 0, none⟩ = some (.slice (some ⟨N, 0, none⟩) (s.top + 1) c) ∧ W.frozen? ⟨D, 0, none⟩ = false ∧ W.cell? ⟨w.heap.size, 0, none⟩ = some (.int .i64 (kindI ⟨true, tag, key, txt, [], 0, []⟩)) ∧ W.cell? ⟨w.heap.size, 1, none⟩ = some (.string tag) ∧ W.cell? ⟨w.heap.size, 2, none⟩ = some (.string key) ∧ W.cell? ⟨w.heap.size, 3, none⟩ = some (.string txt) ∧ W.cell? ⟨w.heap.size, 4, none⟩ = some (.slice none 0 0) ∧ W.cell? ⟨w.heap.size, 5, none⟩ = some (.int .i64 0) ∧ W.cell? ⟨w.heap.size, 6, none⟩ = some (.slice none 0 0) := by
    intro W hW
    have kT : ∀ o, W.cell? ⟨w.heap.size, o, none⟩ = w1.cell? ⟨w.heap.size, o, none⟩ := fun o => hW.cell (blk_lt TB.out) (fun e => by simp only at e; omega)
    have kD : D < w1.heap.size ∧ ¬ D = N := ⟨R1.out.dlt, R1.out.dn⟩
    refine ⟨by rw [hW.cell kD.1 kD.2]; exact R1.out.c0, by rw [hW.frozen kD.1 kD.2]; exact R1.out.f0 0, ?_, ?_, ?_, ?_, ?_, ?_, ?_⟩ <;> rw [kT, blk_cell TB.out] <;> rfl
  have SH := Lib.hid SS
  clear SS
  refine wp_region_ordN 10 ((true, 0) :: (true, 1) :: (true, 2) :: (true, 3) :: (true, 4) :: (true, 5) :: (false, 6) :: (false, 7) :: (true, 8) :: (true, 9) :: (false, 10) :: []) (fun W => Kp (fun k => k = N) w1 W) (by kernel_rfl) (by kernel_rfl) (by decide) (by kernel_rfl) (fun d _ _ _ _ h => by cases d <;> exact h) ((Kp.refl _ w1).drew) ?_
  refine ordn_q (d := some 15) (v := ?_) rfl rfl (Or.inl ⟨by rfl, ?_⟩) ?_
  rotate_left
  · intro wz hSw
    obtain ⟨c0, f0, t0, t1, t2, t3, t4, t5, t6⟩ := SH.out wz hSw
    go_simp
    (try with_reducible rfl)
  try simp only [Act.put, List.setIfInBounds_toArray, List.set_cons_zero, List.set_cons_succ]
  refine ordn_q (d := some 16) (v := ?_) rfl rfl (Or.inl ⟨by rfl, ?_⟩) ?_
  rotate_left
  · intro wz hSw
    obtain ⟨c0, f0, t0, t1, t2, t3, t4, t5, t6⟩ := SH.out wz hSw
    go_simp
    (try with_reducible rfl)
  try simp only [Act.put, List.setIfInBounds_toArray, List.set_cons_zero, List.set_cons_succ]
  refine ordn_q (d := some 17) (v := ?_) rfl rfl (Or.inl ⟨by rfl, ?_⟩) ?_
  rotate_left
  · intro wz hSw
    obtain ⟨c0, f0, t0, t1, t2, t3, t4, t5, t6⟩ := SH.out wz hSw
    go_simp
    (try with_reducible rfl)
  try simp only [Act.put, List.setIfInBounds_toArray, List.set_cons_zero, List.set_cons_succ]
  refine ordn_q (d := some 18) (v := ?_) rfl rfl (Or.inl ⟨by rfl, ?_⟩) ?_
  rotate_left
  · intro wz hSw
    obtain ⟨c0, f0, t0, t1, t2, t3, t4, t5, t6⟩ := SH.out wz hSw
    go_simp
    (try with_reducible rfl)
  try simp only [Act.put, List.setIfInBounds_toArray, List.set_cons_zero, List.set_cons_succ]
  refine ordn_q (d := some 19) (v := ?_) rfl rfl (Or.inl ⟨by rfl, ?_⟩) ?_
  rotate_left
  · intro wz hSw
    obtain ⟨c0, f0, t0, t1, t2, t3, t4, t5, t6⟩ := SH.out wz hSw
    go_simp
    (try with_reducible rfl)
  try simp only [Act.put, List.setIfInBounds_toArray, List.set_cons_zero, List.set_cons_succ]
  refine ordn_q (d := some 20) (v := ?_) rfl rfl (Or.inl ⟨by rfl, ?_⟩) ?_
  rotate_left
  · intro wz hSw
    obtain ⟨c0, f0, t0, t1, t2, t3, t4, t5, t6⟩ := SH.out wz hSw
    go_simp
    (try with_reducible rfl)
  try simp only [Act.put, List.setIfInBounds_toArray, List.set_cons_zero, List.set_cons_succ]
  refine ordn_l ?_
  refine wpOp_step rfl (fun K' hK => ?_)
  have HK := Lib.hid hK
  clear hK
  rw [if_pos (by rfl)]
  go_simp
  have hKA := ((Kp.refl (fun k => k = N) w1).alloc (.cells #[.int .i64 (kindI ⟨true, tag, key, txt, [], 0, []⟩), .string tag, .string key, .string txt, .slice none 0 0, .int .i64 0, .slice none 0 0] 60 (0, 0))).drew
  have RA := Lib.hid (R1.out.alloc (.cells #[.int .i64 (kindI ⟨true, tag, key, txt, [], 0, []⟩), .string tag, .string key, .string txt, .slice none 0 0, .int .i64 0, .slice none 0 0] 60 (0, 0))).drew
  have NB := Lib.hid (show (w1.alloc (.cells #[.int .i64 (kindI ⟨true, tag, key, txt, [], 0, []⟩), .string tag, .string key, .string txt, .slice none 0 0, .int .i64 0, .slice none 0 0] 60 (0, 0))).drew.heap[w1.heap.size]? = _ from blk_new w1 _)
  have hB2 := Lib.hid ((hB.out.alloc hB.out.size (.cells #[.int .i64 (kindI ⟨true, tag, key, txt, [], 0, []⟩), .string tag, .string key, .string txt, .slice none 0 0, .int .i64 0, .slice none 0 0] 60 (0, 0))).drew)
  generalize (w1.alloc _).drew = w2 at *
  replace hKA := Lib.hid hKA
  refine HK.out _ _ ⟨hKA.out, ?_⟩
  clear HK
  try change OrdN _ _ _ _ _ _ (Act.put _ (some 21) _) _
  try simp only [Act.put, List.setIfInBounds_toArray, List.set_cons_zero, List.set_cons_succ]
  refine ordn_l ?_
  refine wpOp_step rfl (fun K' hK => ?_)
  have HK := Lib.hid hK
  clear hK
  rw [if_pos (by rfl)]
  obtain ⟨xs, hxo, hxs⟩ := RA.out.nodesRow
  refine wp_app elN w2 _ _ rfl 0 (.slice (some ⟨N, 0, none⟩) (s.top + 1) c) (s.top + 1) xs rfl (show w2.ownsRow 0 60 7 _ _ xs from hxo) (Nat.zero_le _) ⟨w1.heap.size, 0, none⟩ 1 1 [.int .i64 (kindI ⟨true, tag, key, txt, [], 0, []⟩), .string tag, .string key, .string txt, .slice none 0 0, .int .i64 0, .slice none 0 0] rfl rfl (World.news_of_block NB.out) (by intro u hu; simp at hu; rcases hu with rfl | rfl | rfl | rfl | rfl | rfl | rfl <;> rfl) (by omega) (by omega) ?_
  intro v3 w3 h3 hg3 hv3
  obtain ⟨TU, N3, c3, rfl⟩ := RA.out.pushed ⟨true, tag, key, txt, [], 0, []⟩ rfl rfl hxo.1 hxs h3 hg3 hv3
  replace TU := Lib.hid TU
  have hK3 := Lib.hid (hKA.out.trans ((Kp.refl (fun k => k = N) w2).grown hg3 (fun k _ e => by cases e; rfl)) (fun k _ e => e))
  clear h3 hg3 hv3 hxo hxs
  refine HK.out _ _ ⟨hK3.out, ?_⟩
  clear HK
  try change OrdN _ _ _ _ _ _ (Act.put _ (some 22) _) _
  try simp only [Act.put, List.setIfInBounds_toArray, List.set_cons_zero, List.set_cons_succ]
  refine ordn_q (d := some 23) (v := ?_) rfl rfl (Or.inl ⟨by rfl, ?_⟩) ?_
  rotate_left
  · intro wz hSw
    obtain ⟨c0, f0, t0, t1, t2, t3, t4, t5, t6⟩ := SH.out wz hSw
    go_simp
    (try with_reducible rfl)
  try simp only [Act.put, List.setIfInBounds_toArray, List.set_cons_zero, List.set_cons_succ]
  refine ordn_q (d := some 24) (v := ?_) rfl rfl (Or.inl ⟨by rfl, ?_⟩) ?_
  rotate_left
  · intro wz hSw
    obtain ⟨c0, f0, t0, t1, t2, t3, t4, t5, t6⟩ := SH.out wz hSw
    go_simp
    (try with_reducible rfl)
  try simp only [Act.put, List.setIfInBounds_toArray, List.set_cons_zero, List.set_cons_succ]
  refine ordn_last ?_
  refine wpOp_step rfl (fun K' hK => ?_)
  have HK := Lib.hid hK
  clear hK
  rw [if_pos (by rfl)]
  obtain ⟨c0, f0, t0, t1, t2, t3, t4, t5, t6⟩ := SH.out _ hK3.out
  go_simp
  refine HK.out _ _ ?_
  clear HK
  try simp only [Act.put, List.setIfInBounds_toArray, List.set_cons_zero, List.set_cons_succ]

  clear SH c0 f0 t0 t1 t2 t3 t4 t5 t6
  replace TU := Lib.hid (TU.out.pre hB2.out)
  clear hB2 RA NB hKA hK3
  generalize w3.setCell _ _ = w4 at *
  obtain ⟨ro4, N4, c4, fv4, av4, kv4, R4⟩ := TU.out.dom
  have d0 := R4.c0
  rw [show ({ s.put (s.top + 1) ⟨true, tag, key, txt, [], 0, []⟩ with top := s.top + 1 } : St).top = s.top + 1 from rfl] at d0
  clear R4
  go_wp2
  go_ret
  refine ⟨?_, by rw [HM.out]; exact TU.out⟩
  rw [HF.out]
  rfl

set_option maxHeartbeats 3200000 in
theorem add33_again (tag key txt : ByteArray) (i : Nat) (r : List Nat) (w : World) (h : Rel mP ro w D N c fv av kv s) (hf : s.freed = i :: r) (hi : i ≤ s.top) (hr : r.length ≤ 1000000) :
    Calls Try.prog 33 #[.pointer (some ⟨D, 0, none⟩), .agg #[.int .i64 (kindI ⟨true, tag, key, txt, [], 0, []⟩), .string tag, .string key, .string txt, .slice none 0 0, .int .i64 0, .slice none 0 0]] w (AddP mP ro D s ⟨true, tag, key, txt, [], 0, []⟩ w) := by
  have hB := Lib.hid ((Below.refl _ w).alloc (Nat.le_refl _) (.cells #[.int .i64 (kindI ⟨true, tag, key, txt, [], 0, []⟩), .string tag, .string key, .string txt, .slice none 0 0, .int .i64 0, .slice none 0 0] 60 (0, 0)))
  have R1 := Lib.hid (h.alloc (.cells #[.int .i64 (kindI ⟨true, tag, key, txt, [], 0, []⟩), .string tag, .string key, .string txt, .slice none 0 0, .int .i64 0, .slice none 0 0] 60 (0, 0)))
  have TB := Lib.hid (blk_new w (.cells #[.int .i64 (kindI ⟨true, tag, key, txt, [], 0, []⟩), .string tag, .string key, .string txt, .slice none 0 0, .int .i64 0, .slice none 0 0] 60 (0, 0)))
  have LT := Lib.hid h.lt
  have hfv := h.fr
  obtain ⟨A, f, e1, hf1, _⟩ := h.fr.shape
  rw [hf, List.reverse_cons] at hfv
  obtain ⟨_, ⟨F, e2, hF, hFc⟩, hpop⟩ := hfv.pop e1
  subst e2
  rw [hf, List.length_reverse, List.length_cons] at e1 hf1
  subst e1
  rw [List.length_reverse] at hFc hpop
  have c1 := R1.out.c1
  have f1 := R1.out.f0 1
  have hfr : s.fresh = i := by unfold St.fresh; rw [hf]
  have hmk : s.make ⟨true, tag, key, txt, [], 0, []⟩ = { s.put i ⟨true, tag, key, txt, [], 0, []⟩ with freed := r } := by unfold St.make; rw [hf]
  have HM := Lib.hid hmk
  have HF := Lib.hid hfr
  have hFc1 : (w.alloc (.cells #[.int .i64 (kindI ⟨true, tag, key, txt, [], 0, []⟩), .string tag, .string key, .string txt, .slice none 0 0, .int .i64 0, .slice none 0 0] 60 (0, 0))).cell? ⟨F, r.length, none⟩ = some (.int .i64 i) := by
    rw [hB.out.cell (World.block_lt_of_cell? w _ hFc)]
    exact hFc
  have hpop1 : RowI ro (w.alloc (.cells #[.int .i64 (kindI ⟨true, tag, key, txt, [], 0, []⟩), .string tag, .string key, .string txt, .slice none 0 0, .int .i64 0, .slice none 0 0] 60 (0, 0))) (.slice (some ⟨F, 0, none⟩) r.length f) r.reverse 3 := hpop.same (fun _ e => e) (fun k e => hB.out.block k (LT.out k (by omega)))
  have R2 := Lib.hid (R1.out.freed r (.slice (some ⟨F, 0, none⟩) r.length f) ro _ (fun _ _ => rfl) R1.out.lt (fun _ _ _ => rfl) hpop1)
  have K2 := Lib.hid (((Kp.of_below hB.out (fun k => ro k ≠ 0 ∧ True)).setCell (p := ⟨D, 1, none⟩) (fun _ => ⟨by rw [h.rD]; decide, trivial⟩) (.slice (some ⟨F, 0, none⟩) r.length f)))
  have TB2 := Lib.hid (blk_setCell_other TB.out (p := ⟨D, 1, none⟩) (by have := h.dlt; simp only; omega) (.slice (some ⟨F, 0, none⟩) r.length f))
  have hN2 := h.rN
  have hNlt := h.nlt
  clear hmk hfr h hf hfv hpop hpop1 hFc hF
  go_enter Try.func33, Try.ntmps33
  go_wp2_with fail
  generalize (w.alloc _).setCell _ _ = w1 at *
  clear c1 f1 hFc1
  refine wp_region_still_tail 7 (by kernel_rfl) (by kernel_rfl) ?_
  change wpStill Try.prog _ w1.drew (fun a' => wpList Try.prog _ _ _ a' w1.drew) _ _
  replace R2 := Lib.hid (R2.out.drew)
  replace K2 := Lib.hid (K2.out.drew)
  replace TB2 : Hid (w1.drew.heap[w.heap.size]? = _) := TB2
  generalize w1.drew = wd at *
  have c0 := R2.out.c0
  have t0 := blk_cell TB2.out 0
  have t1 := blk_cell TB2.out 1
  have t2 := blk_cell TB2.out 2
  have t3 := blk_cell TB2.out 3
  have t4 := blk_cell TB2.out 4
  have t5 := blk_cell TB2.out 5
  have t6 := blk_cell TB2.out 6
  simp at t0 t1 t2 t3 t4 t5 t6
  have hi2 : (i : Int) < (s.top : Int) + 1 := by omega
  obtain ⟨n0, n1, n2, n3, n4, n5, n6⟩ := R2.out.nc hi
  have g0 := R2.out.nf (i * 7)
  have g1 := R2.out.nf (i * 7 + 1)
  have g2 := R2.out.nf (i * 7 + 2)
  have g3 := R2.out.nf (i * 7 + 3)
  have g4 := R2.out.nf (i * 7 + 4)
  have g5 := R2.out.nf (i * 7 + 5)
  have g6 := R2.out.nf (i * 7 + 6)
  simp only [List.take_succ_cons, List.take_zero, List.drop_succ_cons, List.drop_zero]
  repeat still_step
  refine wpStill_nil ?_
  have R3 := Lib.hid (R2.out.put7 hi ⟨true, tag, key, txt, [], 0, []⟩ rfl rfl)
  go_wp2_with fail
  go_ret
  refine ⟨by rw [HF.out]; rfl, ?_⟩
  rw [HM.out]
  exact ⟨ro, ⟨_, _, _, _, _, R3.out⟩, fun _ _ => rfl, fun _ h => Or.inl h, kp7 K2.out (fun _ => ⟨by rw [hN2]; decide, trivial⟩) _ _ _ _ _ _ _ _⟩
end
section
variable {ro : Ros} {D : Nat} {s : St}
theorem freed_len (hv : Inv s) : s.freed.length ≤ s.top := by
  have h := length_le_of_sub hv.free.1 (m := s.ids) (fun x hx => mem_ids.2 ⟨((hv.free.2 x).1 hx).1, ((hv.free.2 x).1 hx).2.1⟩)
  have e : s.ids.length = s.top := by simp [St.ids]
  omega
theorem kids_len (hv : Inv s) (i : Nat) : (s.nd i).kids.length ≤ s.top := by
  have h := length_le_of_sub (hv.nodup i) (m := s.ids) (fun x hx => mem_ids.2 (hv.live_pos (hv.down i x hx).2))
  have e : s.ids.length = s.top := by simp [St.ids]
  omega
theorem add33 (tag key txt : ByteArray) (w : World) (h : Dom mP ro w D s) (hv : Inv s) (ht : s.top ≤ 1000000) :
    Calls Try.prog 33 #[.pointer (some ⟨D, 0, none⟩), .agg #[.int .i64 (kindI ⟨true, tag, key, txt, [], 0, []⟩), .string tag, .string key, .string txt, .slice none 0 0, .int .i64 0, .slice none 0 0]] w (AddP mP ro D s ⟨true, tag, key, txt, [], 0, []⟩ w) := by
  obtain ⟨N, c, fv, av, kv, h⟩ := h
  rcases hf : s.freed with _ | ⟨i, r⟩
  · exact add33_push tag key txt w h hf ht
  · have h1 := (hv.free.2 i).1 (by rw [hf]; simp)
    have h2 := freed_len hv
    rw [hf, List.length_cons] at h2
    exact add33_again tag key txt i r w h hf h1.2.1 (by omega)

theorem isEmpty_ne {x : ByteArray} (h : ¬ x = ⟨#[]⟩) : x.toList.isEmpty = false := by
  rw [List.isEmpty_eq_false_iff]
  intro h0
  rw [Lib.toList_data] at h0
  exact h (ByteArray.ext (Array.toList_inj.1 h0))

set_option maxHeartbeats 1600000 in
theorem text9 (x : ByteArray) (k : ByteArray) (w : World) (h : Dom mP ro w D s) (hv : Inv s) (ht : s.top ≤ 1000000) :
    Calls Try.prog 9 #[.pointer (some ⟨D, 0, none⟩), .string x] w (AddP mP ro D s (newNd ⟨#[]⟩ k x) w) := by
  have e1 : kindI ⟨true, ⟨#[]⟩, ⟨#[]⟩, x, [], 0, []⟩ = 2 := rfl
  have HA := add33 ⟨#[]⟩ ⟨#[]⟩ x w h hv ht
  rw [e1] at HA
  replace HA := Lib.hid HA
  clear h hv
  go_enter Try.func9, Try.ntmps9
  go_wp2_with fail
  refine HA.out.mono ?_
  rintro e w' ⟨rfl, h1⟩
  go_wp2
  go_ret
  exact ⟨rfl, h1⟩

set_option maxHeartbeats 1600000 in
theorem element8 (tag key : ByteArray) (w : World) (h : Dom mP ro w D s) (hv : Inv s) (ht : s.top ≤ 1000000) :
    Calls Try.prog 8 #[.pointer (some ⟨D, 0, none⟩), .string tag, .string key] w (AddP mP ro D s (newNd tag key ⟨#[]⟩) w) := by
  by_cases e : tag = ⟨#[]⟩
  · subst e
    have HT := Lib.hid (text9 ⟨#[]⟩ key w h hv ht)
    clear h hv
    go_enter Try.func8, Try.ntmps8
    go_wp2_with fail
    refine HT.out.mono ?_
    rintro e w' ⟨rfl, h1⟩
    go_wp2
    go_ret
    exact ⟨rfl, h1⟩
  · have hl := isEmpty_ne e
    have e1 : kindI ⟨true, tag, key, ⟨#[]⟩, [], 0, []⟩ = 1 := by unfold kindI; simp [e]
    have e2 : newNd tag key ⟨#[]⟩ = ⟨true, tag, key, ⟨#[]⟩, [], 0, []⟩ := by unfold newNd; rw [if_neg e]
    rw [e2]
    have HA := add33 tag key ⟨#[]⟩ w h hv ht
    rw [e1] at HA
    replace HA := Lib.hid HA
    clear h hv e1 e2
    go_enter Try.func8, Try.ntmps8
    go_wp2_with fail
    refine HA.out.mono ?_
    rintro e w' ⟨rfl, h1⟩
    go_wp2
    go_ret
    exact ⟨rfl, h1⟩
end
end Go.Proofs.Ytdbnhpghemlkbaa
