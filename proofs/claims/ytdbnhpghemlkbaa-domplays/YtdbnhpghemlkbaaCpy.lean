/-
  Copy.
-/
import Derived.Test.YtdbnhpghemlkbaaCpr
import Derived.Test.YtdbnhpghemlkbaaSay
import Derived.Test.YtdbnhpghemlkbaaWrk
import Derived.Deep.CutBlock
import Derived.Deep.DeepCutAuto
namespace Go.Proofs.Ytdbnhpghemlkbaa
open Go.RowKit Go.PlainAid Dm
set_option maxRecDepth 100000

theorem owns_sameC {w w' : World} {B : Nat} {e : TypeId} {size n : Nat} {v : Value} {xs : List Value} (h : w.ownsRow B e size v n xs) (hs : ∀ g, v.ownBlock = some g → w'.heap[g]? = w.heap[g]?) : w'.ownsRow B e size v n xs := by
  refine ⟨h.1, ?_⟩
  rcases h.2 with hn | ⟨g, cap, cur, rfl, hb, hgg, rest⟩
  · exact .inl hn
  · exact .inr ⟨g, cap, cur, rfl, hb, (hs g rfl).trans hgg, rest⟩
theorem owns_one {w : World} {B e size n : Nat} {v : Value} {xs : List Value} (h : w.ownsRow B e size v n xs) : v.oneCell' = true := by
  obtain ⟨A, c, rfl⟩ := owns_shape h
  rfl
/-- the new dom under way: its attributes' rows up to kA, its kids' up to kK are its own -/
def CpR (w : World) (D2 N2 c2 : Nat) (fv2 : Value) (s : St) (kA kK : Nat) (W : World) : Prop :=
  ∃ ro av kv, Rel mP ro W D2 N2 c2 fv2 av kv s ∧ (∀ i, i < kA → ∀ g, (av i).ownBlock = some g → w.heap.size ≤ g) ∧ (∀ i, i < kK → ∀ g, (kv i).ownBlock = some g → w.heap.size ≤ g) ∧ Below w.heap.size w W ∧ w.heap.size ≤ D2 ∧ w.heap.size ≤ N2 ∧ ∀ g, fv2.ownBlock = some g → w.heap.size ≤ g
section
variable {ro : Ros} {w W W1 : World} {D N c D2 N2 c2 k : Nat} {fv fv2 v : Value} {av kv : Nat → Value} {s : St} {kA kK : Nat}
theorem CpR.call (h : CpR w D2 N2 c2 fv2 s kA kK W) (hb : Below W.heap.size W W1) : CpR w D2 N2 c2 fv2 s kA kK W1 := by
  obtain ⟨ro, av, kv, h1, h2, h3, h4, h5⟩ := h
  exact ⟨ro, av, kv, h1.call hb, h2, h3, h4.trans (hb.mono h4.size), h5⟩
theorem CpR.bw (h : CpR w D2 N2 c2 fv2 s kA kK W) : Below w.heap.size w W := by
  obtain ⟨ro, av, kv, h1, h2, h3, h4, h5⟩ := h
  exact h4
theorem below_set {B : Nat} {w W : World} (hb : Below B w W) {p : Addr} (hp : B ≤ p.block) (u : Value) : Below B w (W.setCell p u) := by
  exact ⟨hb.os, hb.tape, hb.output, Nat.le_trans hb.size (by simp [World.setCell]), fun i hi => (Below.heap_setCell _ _ _ _ (by omega)).trans (hb.block i hi)⟩
theorem copy_start2 (h : Rel mP ro w D N c fv av kv s) {w' : World} (hb : Below w.heap.size w w') {nv : Value} {xs : List Value} (hn : w'.ownsRow w.heap.size 60 7 nv (s.top + 1) xs) (hx : ∀ i, i ≤ s.top → ∀ j, j < 7 → xs[i * 7 + j]? = (ndC mP (s.nd i) (av i) (kv i))[j]?)
    {m : Nat} (hf : w'.ownsRow m 3 1 fv2 s.freed.reverse.length (niC s.freed.reverse)) (hm : w.heap.size ≤ m) (hl : ∀ g, nv.ownBlock = some g → g < m) :
    ∃ N2 c2, nv = .slice (some ⟨N2, 0, none⟩) (s.top + 1) c2 ∧ CpR w w'.heap.size N2 c2 fv2 s 0 0 (w'.alloc (.cells #[nv, fv2] 63 (0, 0))) := by
  obtain ⟨N2, c2, e, hN, R⟩ := copy_start h hb hn hx (owns_down hf hm) (fun g e e2 => by have := hl g e; have := (hf.lt g e2).1; omega)
  exact ⟨N2, c2, e, _, _, _, R, fun i hi => absurd hi (Nat.not_lt_zero _), fun i hi => absurd hi (Nat.not_lt_zero _), hb.alloc hb.size _, hb.size, hN, fun g e => Nat.le_trans hm (hf.lt g e).1⟩
theorem CpR.A (h : CpR w D2 N2 c2 fv2 s k k W) (hk : k ≤ s.top) (hb : Below W.heap.size W W1) (hown : W1.ownsRow W.heap.size 45 2 v (s.nd k).attrs.length ((s.nd k).attrs.flatMap atC)) : CpR w D2 N2 c2 fv2 s (k + 1) k (W1.setCell ⟨N2, k * 7 + 4, none⟩ v) := by
  obtain ⟨ro, av, kv, h1, h2, h3, h4, h5, h6, h7⟩ := h
  have hz := h4.size
  refine ⟨_, _, _, copyA h1 hk hb hown, fun i hi g hg => ?_, fun i hi g hg => ?_, below_set (h4.trans (hb.mono hz)) h6 v, h5, h6, h7⟩
  · by_cases e : i = k
    · subst e
      rw [up_same] at hg
      exact Nat.le_trans hz (hown.lt g hg).1
    · rw [up_ne _ _ e] at hg
      exact h2 i (by omega) g hg
  · by_cases e : i = k
    · omega
    · rw [up_ne _ _ e] at hg
      exact h3 i hi g hg
theorem CpR.K (h : CpR w D2 N2 c2 fv2 s (k + 1) k W) (hk : k ≤ s.top) (hb : Below W.heap.size W W1) (hown : W1.ownsRow W.heap.size 3 1 v (s.nd k).kids.length (niC (s.nd k).kids)) : CpR w D2 N2 c2 fv2 s (k + 1) (k + 1) (W1.setCell ⟨N2, k * 7 + 6, none⟩ v) := by
  obtain ⟨ro, av, kv, h1, h2, h3, h4, h5, h6, h7⟩ := h
  have hz := h4.size
  refine ⟨_, _, _, copyK h1 hk hb hown, fun i hi g hg => ?_, fun i hi g hg => ?_, below_set (h4.trans (hb.mono hz)) h6 v, h5, h6, h7⟩
  · by_cases e : i = k
    · subst e
      rw [up_same] at hg
      exact h2 i hi g hg
    · rw [up_ne _ _ e] at hg
      exact h2 i hi g hg
  · by_cases e : i = k
    · subst e
      rw [up_same] at hg
      exact Nat.le_trans hz (hown.lt g hg).1
    · rw [up_ne _ _ e] at hg
      exact h3 i (by omega) g hg
theorem CpR.fin (h : CpR w D2 N2 c2 fv2 s (s.top + 1) (s.top + 1) W) : NewD mP s w (.returned (.pointer (some ⟨D2, 0, none⟩))) W := by
  obtain ⟨ro, av, kv, h1, h2, h3, h4, h5, h6, h7⟩ := h
  refine ⟨D2, _, rfl, ⟨_, _, _, _, _, copy_end h1 h5 h6 h7 (fun i hi => h2 i (by omega)) (fun i hi => h3 i (by omega))⟩, fun k hk => ?_, h4⟩
  by_cases e : k < w.heap.size
  · rw [if_pos e] at hk
    exact absurd rfl hk
  · omega
theorem CpR.at (h : CpR w D2 N2 c2 fv2 s kA kK W) (hk : k ≤ s.top) : ∃ A4 c4 A6 c6, W.cell? ⟨D2, 0, none⟩ = some (.slice (some ⟨N2, 0, none⟩) (s.top + 1) c2) ∧ W.cell? ⟨N2, k * 7, none⟩ = some (mP.fst (s.nd k)) ∧ W.cell? ⟨N2, k * 7 + 1, none⟩ = some (.string (s.nd k).tag) ∧ W.cell? ⟨N2, k * 7 + 2, none⟩ = some (.string (s.nd k).key) ∧ W.cell? ⟨N2, k * 7 + 3, none⟩ = some (.string (s.nd k).text) ∧
    W.cell? ⟨N2, k * 7 + 4, none⟩ = some (.slice A4 (s.nd k).attrs.length c4) ∧ W.cell? ⟨N2, k * 7 + 5, none⟩ = some (.int .i64 (s.nd k).par) ∧ W.cell? ⟨N2, k * 7 + 6, none⟩ = some (.slice A6 (s.nd k).kids.length c6) ∧ W.frozen? ⟨N2, k * 7 + 4, none⟩ = false ∧ W.frozen? ⟨N2, k * 7 + 6, none⟩ = false ∧
    N2 < W.heap.size ∧ Hid (W.ownsRow 0 45 2 (.slice A4 (s.nd k).attrs.length c4) (s.nd k).attrs.length ((s.nd k).attrs.flatMap atC)) ∧ Hid (W.ownsRow 0 3 1 (.slice A6 (s.nd k).kids.length c6) (s.nd k).kids.length (niC (s.nd k).kids)) ∧ ∀ g, (Value.slice A6 (s.nd k).kids.length c6).ownBlock = some g → g ≠ N2 := by
  obtain ⟨ro, av, kv, h1, h2, h3, h4, h5, h6, h7⟩ := h
  have ha := (h1.ats k hk).1
  have hki := h1.ki k hk
  obtain ⟨n0, n1, n2, n3, n4, n5, n6⟩ := h1.nc hk
  obtain ⟨A4, c4, e4⟩ := owns_shape ha
  obtain ⟨A6, c6, e6⟩ := owns_shape hki.1
  rw [e4] at n4 ha
  rw [e6] at n6 hki
  exact ⟨A4, c4, A6, c6, h1.c0, n0, n1, n2, n3, n4, n5, n6, h1.nf _, h1.nf _, h1.nlt, ha, hki.1, fun g hg e => by have := hki.2 g hg; rw [e, h1.rN] at this; omega⟩
theorem CpR.facts (h : CpR w D2 N2 c2 fv2 s kA kK W) (hk : k ≤ s.top) : W.cell? ⟨D2, 0, none⟩ = some (.slice (some ⟨N2, 0, none⟩) (s.top + 1) c2) ∧ (∃ u, W.cell? ⟨N2, k * 7 + 4, none⟩ = some u) ∧ W.frozen? ⟨N2, k * 7 + 4, none⟩ = false ∧ (∃ u, W.cell? ⟨N2, k * 7 + 6, none⟩ = some u) ∧ W.frozen? ⟨N2, k * 7 + 6, none⟩ = false := by
  obtain ⟨A4, c4, A6, c6, h0, _, _, _, _, h4, _, h6, g4, g6, _⟩ := h.at hk
  exact ⟨h0, ⟨_, h4⟩, g4, ⟨_, h6⟩, g6⟩
end

section
variable {ro : Ros} {D : Nat} {s : St}
set_option maxHeartbeats 6400000 in
theorem copy26 (w : World) (h : Dom mP ro w D s) (hv : Inv s) (hf : Fit s) (hs : s.top ≤ 1000000) (hfl : s.freed.length ≤ 1000000) :
    Calls Try.prog 26 #[.pointer (some ⟨D, 0, none⟩)] w (NewD mP s w) := by
  obtain ⟨N, c, fv, av, kv, h⟩ := h
  have R0 := Lib.hid h
  obtain ⟨xs, hx1, hx2⟩ := h.nodesRow
  have hxo : Hid (w.drew.ownsRow 0 60 7 (.slice (some ⟨N, 0, none⟩) (s.top + 1) c) (s.top + 1) xs) := hx1
  have HX := Lib.hid hx2
  have hone : Hid (∀ u ∈ xs, u.oneCell' = true) := by
    intro u hu
    obtain ⟨i, hi, rfl⟩ := List.getElem_of_mem hu
    have hlen := hx1.1
    have hq : xs[i]? = some xs[i] := List.getElem?_eq_getElem hi
    have hd : i / 7 ≤ s.top := by omega
    have e := hx2 (i / 7) hd (i % 7) (Nat.mod_lt _ (by decide))
    rw [show i / 7 * 7 + i % 7 = i by omega, hq] at e
    have hA := owns_one (h.ats _ hd).1
    have hK := owns_one (h.ki _ hd).1
    generalize xs[i] = u at *
    have hm := List.mem_of_getElem? e.symm
    unfold ndC at hm
    simp only [List.mem_cons, List.not_mem_nil, or_false] at hm
    rcases hm with rfl | rfl | rfl | rfl | rfl | rfl | rfl
    · rfl
    · rfl
    · rfl
    · rfl
    · exact hA
    · rfl
    · exact hK
  have FR : Hid (w.ownsRow 0 3 1 fv s.freed.reverse.length (niC s.freed.reverse)) := h.fr.1
  have hfr : s.freed.reverse.length ≤ 1000000 := by rw [List.length_reverse]; exact hfl
  have SH : Hid (∀ W, Below w.heap.size w W → W.cell? ⟨D, 0, none⟩ = some (.slice (some ⟨N, 0, none⟩) (s.top + 1) c) ∧ W.cell? ⟨D, 1, none⟩ = some fv) := fun W hW => ⟨(R0.out.call hW).c0, (R0.out.call hW).c1⟩
  have HFit := Lib.hid hf
  have HV := Lib.hid hv
  clear h hx1 hx2 hf hv
  go_enter Try.func26, Try.ntmps26
  go_upto_region 1 with fail
  refine wp_region_ord ((true, 0) :: (true, 1) :: (true, 2) :: (true, 3) :: (true, 5) :: (true, 6) :: (true, 7) :: (true, 8) :: (false, 4) :: (false, 9) :: (true, 10) :: (false, 11) :: (true, 12) :: []) (fun W => Below w.heap.size w W) (by kernel_rfl) (by kernel_rfl) (by decide) (by kernel_rfl) (fun d _ _ _ _ h => by cases d <;> exact h) ((Below.refl _ w).drew) ?_
  refine ord_q (d := some 6) (v := ?_) rfl rfl (Or.inl ⟨by rfl, ?_⟩) ?_
  rotate_left
  · intro wz hSw
    obtain ⟨c0, c1⟩ := SH.out wz hSw
    go_simp
    (try with_reducible rfl)
  try simp only [Act.put, List.setIfInBounds_toArray, List.set_cons_zero, List.set_cons_succ]
  refine ord_q (d := some 7) (v := ?_) rfl rfl (Or.inl ⟨by rfl, ?_⟩) ?_
  rotate_left
  · intro wz hSw
    obtain ⟨c0, c1⟩ := SH.out wz hSw
    go_simp
    (try with_reducible rfl)
  try simp only [Act.put, List.setIfInBounds_toArray, List.set_cons_zero, List.set_cons_succ]
  refine ord_q (d := some 8) (v := ?_) rfl rfl (Or.inl ⟨by rfl, ?_⟩) ?_
  rotate_left
  · intro wz hSw
    obtain ⟨c0, c1⟩ := SH.out wz hSw
    go_simp
    (try with_reducible rfl)
  try simp only [Act.put, List.setIfInBounds_toArray, List.set_cons_zero, List.set_cons_succ]
  refine ord_q (d := some 9) (v := ?_) rfl rfl (Or.inl ⟨by rfl, ?_⟩) ?_
  rotate_left
  · intro wz hSw
    obtain ⟨c0, c1⟩ := SH.out wz hSw
    go_simp
    (try with_reducible rfl)
  try simp only [Act.put, List.setIfInBounds_toArray, List.set_cons_zero, List.set_cons_succ]
  refine ord_q (d := some 11) (v := ?_) rfl rfl (Or.inl ⟨by rfl, ?_⟩) ?_
  rotate_left
  · intro wz hSw
    obtain ⟨c0, c1⟩ := SH.out wz hSw
    go_simp
    (try with_reducible rfl)
  try simp only [Act.put, List.setIfInBounds_toArray, List.set_cons_zero, List.set_cons_succ]
  refine ord_q (d := some 12) (v := ?_) rfl rfl (Or.inl ⟨by rfl, ?_⟩) ?_
  rotate_left
  · intro wz hSw
    obtain ⟨c0, c1⟩ := SH.out wz hSw
    go_simp
    (try with_reducible rfl)
  try simp only [Act.put, List.setIfInBounds_toArray, List.set_cons_zero, List.set_cons_succ]
  refine ord_q (d := some 13) (v := ?_) rfl rfl (Or.inl ⟨by rfl, ?_⟩) ?_
  rotate_left
  · intro wz hSw
    obtain ⟨c0, c1⟩ := SH.out wz hSw
    go_simp
    (try with_reducible rfl)
  try simp only [Act.put, List.setIfInBounds_toArray, List.set_cons_zero, List.set_cons_succ]
  refine ord_q (d := some 14) (v := ?_) rfl rfl (Or.inl ⟨by rfl, ?_⟩) ?_
  rotate_left
  · intro wz hSw
    obtain ⟨c0, c1⟩ := SH.out wz hSw
    go_simp
    (try with_reducible rfl)
  try simp only [Act.put, List.setIfInBounds_toArray, List.set_cons_zero, List.set_cons_succ]
  refine ord_l ?_
  refine wpOp_step rfl (fun K' hK => ?_)
  have HK := Lib.hid hK
  clear hK
  rw [if_pos (by rfl)]
  go_simp
  refine (listOf47 _ _ xs w.drew hxo.out hone.out (by omega)).mono ?_
  rintro e w1 ⟨nv, rfl, hn1, hb1⟩
  have B1 := Lib.hid ((Below.refl w.heap.size w).drew.trans hb1)
  have HN1 := Lib.hid hn1
  obtain ⟨NA, nc, rfl⟩ := owns_shape hn1
  clear hn1 hb1
  refine HK.out _ _ ⟨B1.out, ?_⟩
  clear HK
  try change OrdW _ _ _ _ _ (Act.put _ (some 10) _) _
  try simp only [Act.put, List.setIfInBounds_toArray, List.set_cons_zero, List.set_cons_succ]
  refine ord_l ?_
  refine wpOp_step rfl (fun K' hK => ?_)
  have HK := Lib.hid hK
  clear hK
  rw [if_pos (by rfl)]
  go_simp
  have FR1 := Lib.hid (owns_same FR.out (fun g hg => B1.out.block g (FR.out.lt g hg).2))
  refine (listOf48 _ _ _ w1 FR1.out (niC_one _) (by omega)).mono ?_
  rintro e w2 ⟨fv2, rfl, hf2, hb2⟩
  have B2 := Lib.hid (B1.out.trans (hb2.mono B1.out.size))
  have HN2 := Lib.hid (owns_sameC HN1.out (fun g hg => hb2.block g (HN1.out.lt g hg).2))
  have HF2 := Lib.hid hf2
  obtain ⟨FA, fc, rfl⟩ := owns_shape hf2
  have HL := Lib.hid (fun g => (HN1.out.lt g))
  clear hf2 hb2
  obtain ⟨N2, c2, eN, CR⟩ := copy_start2 R0.out B2.out HN2.out HX.out HF2.out B1.out.size (fun g e => (HL.out g e).2)
  cases eN
  rw [List.length_reverse] at CR
  replace CR := Lib.hid CR
  refine HK.out _ _ ⟨B2.out, ?_⟩
  clear HK
  try change OrdW _ _ _ _ _ (Act.put _ (some 15) _) _
  try simp only [Act.put, List.setIfInBounds_toArray, List.set_cons_zero, List.set_cons_succ]
  refine ord_q (d := some 16) (v := ?_) rfl rfl (Or.inl ⟨by rfl, ?_⟩) ?_
  rotate_left
  · intro wz hSw
    obtain ⟨c0, c1⟩ := SH.out wz hSw
    go_simp
    (try with_reducible rfl)
  try simp only [Act.put, List.setIfInBounds_toArray, List.set_cons_zero, List.set_cons_succ]
  refine ord_l ?_
  refine wpOp_step rfl (fun K' hK => ?_)
  have HK := Lib.hid hK
  clear hK
  rw [if_pos (by rfl)]
  go_simp
  refine HK.out _ _ ⟨(B2.out.alloc B2.out.size _), ?_⟩
  clear HK
  try change OrdW _ _ _ _ _ (Act.put _ (some 17) _) _
  try simp only [Act.put, List.setIfInBounds_toArray, List.set_cons_zero, List.set_cons_succ]
  refine ord_q (d := some 3) (v := ?_) rfl rfl (Or.inl ⟨by rfl, ?_⟩) ?_
  rotate_left
  · intro wz hSw
    obtain ⟨c0, c1⟩ := SH.out wz hSw
    go_simp
    (try with_reducible rfl)
  try simp only [Act.put, List.setIfInBounds_toArray, List.set_cons_zero, List.set_cons_succ]
  refine ord_nil ?_

  change Hid (CpR w w2.heap.size N2 nc _ s 0 0 _) at CR
  generalize hfv : Value.slice FA s.freed.length fc = fv2 at *
  generalize World.alloc _ _ = w3 at *
  generalize w2.heap.size = D2 at *
  clear SH HL HF2 HN2 B2 FR1 hxo HX hone FR B1 HN1 R0
  have d0 := (CR.out.facts (Nat.zero_le s.top)).1
  go_wp2_with fail
  go_loopw [23] (fun p wr => ∃ (k : Nat), k ≤ s.top + 1 ∧ p = .int .i64 k ∧ Hid (CpR w D2 N2 nc fv2 s k k wr)) (fun p _ => s.top + 1 - (intOf p).toNat)
  case atStart => exact ⟨0, by omega, rfl, CR⟩
  case round =>
    obtain ⟨k, hk, rfl, C⟩ := hrel
    clear CR d0
    by_cases hkt : k ≤ s.top
    · have e0 : (k : Int) < (s.top : Int) + 1 := by omega
      obtain ⟨A4, c4, A6, c6, d0, n0, n1, n2, n3, n4, n5, n6, g4, g6, hlt, RA0, RK0, hne⟩ := C.out.at hkt
      obtain ⟨z, hz⟩ : ∃ z : Int, mP.fst (s.nd k) = .int .i64 z := ⟨_, rfl⟩
      rw [hz] at n0
      go_upto_region 5 with fail
      have TB := Lib.hid (blk_new wr (.cells #[.int .i64 z, .string (s.nd k).tag, .string (s.nd k).key, .string (s.nd k).text, .slice A4 (s.nd k).attrs.length c4, .int .i64 ((s.nd k).par : Int), .slice A6 (s.nd k).kids.length c6] 60 (0, 0)))
      have BA : Below wr.heap.size wr (wr.alloc (.cells #[.int .i64 z, .string (s.nd k).tag, .string (s.nd k).key, .string (s.nd k).text, .slice A4 (s.nd k).attrs.length c4, .int .i64 ((s.nd k).par : Int), .slice A6 (s.nd k).kids.length c6] 60 (0, 0))) := (Below.refl _ wr).alloc (Nat.le_refl _) _
      have CB := Lib.hid (C.out.call BA)
      have RA := Lib.hid (owns_same RA0.out (fun g hg => BA.block g (RA0.out.lt g hg).2))
      have RK1 := Lib.hid (owns_same RK0.out (fun g hg => BA.block g (RK0.out.lt g hg).2))
      have hdis : ∀ g, (Value.slice A6 (s.nd k).kids.length c6).ownBlock = some g → g ≠ wr.heap.size := fun g hg => by have := (RK0.out.lt g hg).2; omega
      clear BA RA0 RK0 C n0 n1 n2 n3 n4 n5 n6 g4 g6 d0
      generalize World.alloc wr _ = wb at *
      generalize wr.heap.size = T at *
      have HAL : Hid ((s.nd k).attrs.length ≤ 100000000) := Nat.le_trans (HFit.out k) (by decide)
      have HKL : Hid ((s.nd k).kids.length ≤ 100000000) := Nat.le_trans (kids_len HV.out k) (by omega)
      have HTB : T < wb.heap.size := blk_lt TB.out
      have SH : Hid (∀ W, Below wb.heap.size wb W → W.cell? ⟨D2, 0, none⟩ = some (.slice (some ⟨N2, 0, none⟩) (s.top + 1) nc) ∧ (∃ u, W.cell? ⟨N2, k * 7 + 4, none⟩ = some u) ∧ W.frozen? ⟨N2, k * 7 + 4, none⟩ = false ∧ W.cell? ⟨T, 4, none⟩ = some (.slice A4 (s.nd k).attrs.length c4) ∧ W.cell? ⟨T, 6, none⟩ = some (.slice A6 (s.nd k).kids.length c6)) := by
        intro W hW
        obtain ⟨q0, q1, q2, _, _⟩ := (CB.out.call hW).facts hkt
        have hb := blk_call TB.out hW
        exact ⟨q0, q1, q2, by rw [blk_cell hb]; rfl, by rw [blk_cell hb]; rfl⟩
      have e0k : (k : Int) < (s.top : Int) + 1 := e0
      refine wp_region_ordN 10 ((true, 0) :: (true, 1) :: (true, 2) :: (true, 3) :: (true, 4) :: (true, 5) :: (true, 6) :: (false, 7) :: (true, 8) :: (true, 9) :: (false, 10) :: []) (fun W => Below wb.heap.size wb W) (by kernel_rfl) (by kernel_rfl) (by decide) (by kernel_rfl) (fun d _ _ _ _ h => by cases d <;> exact h) ((Below.refl _ wb).drew) ?_
      refine ordn_q (d := some 28) (v := ?_) rfl rfl (Or.inl ⟨by rfl, ?_⟩) ?_
      rotate_left
      · intro wz hSw
        obtain ⟨d0, ⟨u4, n4⟩, g4, x4, x6⟩ := SH.out wz hSw
        go_simp
        (try with_reducible rfl)
      try simp only [Act.put, List.setIfInBounds_toArray, List.set_cons_zero, List.set_cons_succ]
      refine ordn_q (d := some 29) (v := ?_) rfl rfl (Or.inl ⟨by rfl, ?_⟩) ?_
      rotate_left
      · intro wz hSw
        obtain ⟨d0, ⟨u4, n4⟩, g4, x4, x6⟩ := SH.out wz hSw
        go_simp
        (try with_reducible rfl)
      try simp only [Act.put, List.setIfInBounds_toArray, List.set_cons_zero, List.set_cons_succ]
      refine ordn_q (d := some 30) (v := ?_) rfl rfl (Or.inl ⟨by rfl, ?_⟩) ?_
      rotate_left
      · intro wz hSw
        obtain ⟨d0, ⟨u4, n4⟩, g4, x4, x6⟩ := SH.out wz hSw
        go_simp
        (try with_reducible rfl)
      try simp only [Act.put, List.setIfInBounds_toArray, List.set_cons_zero, List.set_cons_succ]
      refine ordn_q (d := some 31) (v := ?_) rfl rfl (Or.inl ⟨by rfl, ?_⟩) ?_
      rotate_left
      · intro wz hSw
        obtain ⟨d0, ⟨u4, n4⟩, g4, x4, x6⟩ := SH.out wz hSw
        go_simp
        (try with_reducible rfl)
      try simp only [Act.put, List.setIfInBounds_toArray, List.set_cons_zero, List.set_cons_succ]
      refine ordn_q (d := some 32) (v := ?_) rfl rfl (Or.inl ⟨by rfl, ?_⟩) ?_
      rotate_left
      · intro wz hSw
        obtain ⟨d0, ⟨u4, n4⟩, g4, x4, x6⟩ := SH.out wz hSw
        go_simp
        (try with_reducible rfl)
      try simp only [Act.put, List.setIfInBounds_toArray, List.set_cons_zero, List.set_cons_succ]
      refine ordn_q (d := some 33) (v := ?_) rfl rfl (Or.inl ⟨by rfl, ?_⟩) ?_
      rotate_left
      · intro wz hSw
        obtain ⟨d0, ⟨u4, n4⟩, g4, x4, x6⟩ := SH.out wz hSw
        go_simp
        (try with_reducible rfl)
      try simp only [Act.put, List.setIfInBounds_toArray, List.set_cons_zero, List.set_cons_succ]
      refine ordn_q (d := some 34) (v := ?_) rfl rfl (Or.inl ⟨by rfl, ?_⟩) ?_
      rotate_left
      · intro wz hSw
        obtain ⟨d0, ⟨u4, n4⟩, g4, x4, x6⟩ := SH.out wz hSw
        go_simp
        (try with_reducible rfl)
      try simp only [Act.put, List.setIfInBounds_toArray, List.set_cons_zero, List.set_cons_succ]
      refine ordn_l ?_
      refine wpOp_step rfl (fun K' hK => ?_)
      have HK := Lib.hid hK
      clear hK
      rw [if_pos (by rfl)]
      go_simp
      refine (listOf42 _ _ _ wb.drew RA.out (atC_one _) HAL.out).mono ?_
      rintro e w2 ⟨v2, rfl, h2, hb2⟩
      have B2 := Lib.hid ((Below.refl wb.heap.size wb).drew.trans hb2)
      have H2 := Lib.hid h2
      obtain ⟨A2, c2a, rfl⟩ := owns_shape h2
      clear h2 hb2
      refine HK.out _ _ ⟨B2.out, ?_⟩
      clear HK
      try change OrdN _ _ _ _ _ _ (Act.put _ (some 35) _) _
      try simp only [Act.put, List.setIfInBounds_toArray, List.set_cons_zero, List.set_cons_succ]
      refine ordn_q (d := some 36) (v := ?_) rfl rfl (Or.inl ⟨by rfl, ?_⟩) ?_
      rotate_left
      · intro wz hSw
        obtain ⟨d0, ⟨u4, n4⟩, g4, x4, x6⟩ := SH.out wz hSw
        go_simp
        (try with_reducible rfl)
      try simp only [Act.put, List.setIfInBounds_toArray, List.set_cons_zero, List.set_cons_succ]
      refine ordn_q (d := some 37) (v := ?_) rfl rfl (Or.inl ⟨by rfl, ?_⟩) ?_
      rotate_left
      · intro wz hSw
        obtain ⟨d0, ⟨u4, n4⟩, g4, x4, x6⟩ := SH.out wz hSw
        go_simp
        (try with_reducible rfl)
      try simp only [Act.put, List.setIfInBounds_toArray, List.set_cons_zero, List.set_cons_succ]
      refine ordn_last ?_
      refine wpOp_step rfl (fun K' hK => ?_)
      have HK := Lib.hid hK
      clear hK
      rw [if_pos (by rfl)]
      obtain ⟨d0, ⟨u4, n4⟩, g4, x4, x6⟩ := SH.out _ B2.out
      go_simp
      refine HK.out _ _ ?_
      clear HK
      try simp only [Act.put, List.setIfInBounds_toArray, List.set_cons_zero, List.set_cons_succ]

      have CC := Lib.hid (CB.out.A hkt B2.out H2.out)
      have TBc := Lib.hid ((Below.heap_setCell w2 ⟨N2, k * 7 + 4, none⟩ (.slice A2 (s.nd k).attrs.length c2a) T (by simp only; omega)).trans (blk_call TB.out B2.out))
      have RK := Lib.hid (owns_same RK1.out (w' := w2.setCell ⟨N2, k * 7 + 4, none⟩ (.slice A2 (s.nd k).attrs.length c2a)) (fun g hg => (Below.heap_setCell w2 ⟨N2, k * 7 + 4, none⟩ (.slice A2 (s.nd k).attrs.length c2a) g (hne g hg)).trans (B2.out.block g (RK1.out.lt g hg).2)))
      clear SH CB TB RA RK1 B2 H2 d0 n4 g4 x4 x6
      generalize World.setCell _ _ _ = wc at *
      go_upto_region 6 with fail
      have HTC : T < wc.heap.size := blk_lt TBc.out
      have SH2 : Hid (∀ W, Below wc.heap.size wc W → W.cell? ⟨D2, 0, none⟩ = some (.slice (some ⟨N2, 0, none⟩) (s.top + 1) nc) ∧ (∃ u, W.cell? ⟨N2, k * 7 + 6, none⟩ = some u) ∧ W.frozen? ⟨N2, k * 7 + 6, none⟩ = false ∧ W.cell? ⟨T, 6, none⟩ = some (.slice A6 (s.nd k).kids.length c6)) := by
        intro W hW
        obtain ⟨q0, _, _, q1, q2⟩ := (CC.out.call hW).facts hkt
        have hb := blk_call TBc.out hW
        exact ⟨q0, q1, q2, by rw [blk_cell hb]; rfl⟩
      refine wp_region_ordN 10 ((true, 0) :: (true, 1) :: (true, 2) :: (true, 3) :: (true, 4) :: (true, 5) :: (true, 6) :: (false, 7) :: (true, 8) :: (true, 9) :: (false, 10) :: []) (fun W => Below wc.heap.size wc W) (by kernel_rfl) (by kernel_rfl) (by decide) (by kernel_rfl) (fun d _ _ _ _ h => by cases d <;> exact h) ((Below.refl _ wc).drew) ?_
      refine ordn_q (d := some 38) (v := ?_) rfl rfl (Or.inl ⟨by rfl, ?_⟩) ?_
      rotate_left
      · intro wz hSw
        obtain ⟨d0, ⟨u6, n6⟩, g6, x6⟩ := SH2.out wz hSw
        go_simp
        (try with_reducible rfl)
      try simp only [Act.put, List.setIfInBounds_toArray, List.set_cons_zero, List.set_cons_succ]
      refine ordn_q (d := some 39) (v := ?_) rfl rfl (Or.inl ⟨by rfl, ?_⟩) ?_
      rotate_left
      · intro wz hSw
        obtain ⟨d0, ⟨u6, n6⟩, g6, x6⟩ := SH2.out wz hSw
        go_simp
        (try with_reducible rfl)
      try simp only [Act.put, List.setIfInBounds_toArray, List.set_cons_zero, List.set_cons_succ]
      refine ordn_q (d := some 40) (v := ?_) rfl rfl (Or.inl ⟨by rfl, ?_⟩) ?_
      rotate_left
      · intro wz hSw
        obtain ⟨d0, ⟨u6, n6⟩, g6, x6⟩ := SH2.out wz hSw
        go_simp
        (try with_reducible rfl)
      try simp only [Act.put, List.setIfInBounds_toArray, List.set_cons_zero, List.set_cons_succ]
      refine ordn_q (d := some 41) (v := ?_) rfl rfl (Or.inl ⟨by rfl, ?_⟩) ?_
      rotate_left
      · intro wz hSw
        obtain ⟨d0, ⟨u6, n6⟩, g6, x6⟩ := SH2.out wz hSw
        go_simp
        (try with_reducible rfl)
      try simp only [Act.put, List.setIfInBounds_toArray, List.set_cons_zero, List.set_cons_succ]
      refine ordn_q (d := some 42) (v := ?_) rfl rfl (Or.inl ⟨by rfl, ?_⟩) ?_
      rotate_left
      · intro wz hSw
        obtain ⟨d0, ⟨u6, n6⟩, g6, x6⟩ := SH2.out wz hSw
        go_simp
        (try with_reducible rfl)
      try simp only [Act.put, List.setIfInBounds_toArray, List.set_cons_zero, List.set_cons_succ]
      refine ordn_q (d := some 43) (v := ?_) rfl rfl (Or.inl ⟨by rfl, ?_⟩) ?_
      rotate_left
      · intro wz hSw
        obtain ⟨d0, ⟨u6, n6⟩, g6, x6⟩ := SH2.out wz hSw
        go_simp
        (try with_reducible rfl)
      try simp only [Act.put, List.setIfInBounds_toArray, List.set_cons_zero, List.set_cons_succ]
      refine ordn_q (d := some 44) (v := ?_) rfl rfl (Or.inl ⟨by rfl, ?_⟩) ?_
      rotate_left
      · intro wz hSw
        obtain ⟨d0, ⟨u6, n6⟩, g6, x6⟩ := SH2.out wz hSw
        go_simp
        (try with_reducible rfl)
      try simp only [Act.put, List.setIfInBounds_toArray, List.set_cons_zero, List.set_cons_succ]
      refine ordn_l ?_
      refine wpOp_step rfl (fun K' hK => ?_)
      have HK := Lib.hid hK
      clear hK
      rw [if_pos (by rfl)]
      go_simp
      refine (listOf48 _ _ _ wc.drew RK.out (niC_one _) HKL.out).mono ?_
      rintro e w2 ⟨v2, rfl, h2, hb2⟩
      have B2 := Lib.hid ((Below.refl wc.heap.size wc).drew.trans hb2)
      have H2 := Lib.hid h2
      obtain ⟨A2, c2a, rfl⟩ := owns_shape h2
      clear h2 hb2
      refine HK.out _ _ ⟨B2.out, ?_⟩
      clear HK
      try change OrdN _ _ _ _ _ _ (Act.put _ (some 45) _) _
      try simp only [Act.put, List.setIfInBounds_toArray, List.set_cons_zero, List.set_cons_succ]
      refine ordn_q (d := some 46) (v := ?_) rfl rfl (Or.inl ⟨by rfl, ?_⟩) ?_
      rotate_left
      · intro wz hSw
        obtain ⟨d0, ⟨u6, n6⟩, g6, x6⟩ := SH2.out wz hSw
        go_simp
        (try with_reducible rfl)
      try simp only [Act.put, List.setIfInBounds_toArray, List.set_cons_zero, List.set_cons_succ]
      refine ordn_q (d := some 47) (v := ?_) rfl rfl (Or.inl ⟨by rfl, ?_⟩) ?_
      rotate_left
      · intro wz hSw
        obtain ⟨d0, ⟨u6, n6⟩, g6, x6⟩ := SH2.out wz hSw
        go_simp
        (try with_reducible rfl)
      try simp only [Act.put, List.setIfInBounds_toArray, List.set_cons_zero, List.set_cons_succ]
      refine ordn_last ?_
      refine wpOp_step rfl (fun K' hK => ?_)
      have HK := Lib.hid hK
      clear hK
      rw [if_pos (by rfl)]
      obtain ⟨d0, ⟨u6, n6⟩, g6, x6⟩ := SH2.out _ B2.out
      go_simp
      refine HK.out _ _ ?_
      clear HK
      try simp only [Act.put, List.setIfInBounds_toArray, List.set_cons_zero, List.set_cons_succ]

      have CD := Lib.hid (CC.out.K hkt B2.out H2.out)
      clear SH2 CC TBc RK B2 H2 d0 n6 g6 x6
      generalize World.setCell _ _ _ = wd at *
      go_wp2_with fail
      go_roundw
      case rel => exact ⟨k + 1, by omega, by go_num, CD⟩
      case measure => simp [intOf]; omega
    · have e0 : ¬ (k : Int) < (s.top : Int) + 1 := by omega
      obtain rfl : k = s.top + 1 := by omega
      go_wp2_with fail
      go_ret
      exact C.out.fin
end
end Go.Proofs.Ytdbnhpghemlkbaa
