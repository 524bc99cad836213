/-
  Detach.
-/
import Derived.Test.YtdbnhpghemlkbaaSay
import Derived.Test.YtdbnhpghemlkbaaIns
import Derived.Test.YtdbnhpghemlkbaaHld
namespace Go.Proofs.Ytdbnhpghemlkbaa
open Go.RowKit Go.PlainAid Dm
set_option maxRecDepth 100000

section
variable {s : St}
theorem ndI_par (hv : Inv s) (i : Int) : (ndI s i).par ≠ 0 ↔ s.mayDetach i := by
  unfold St.mayDetach
  constructor
  · intro h
    have hl : (ndI s i).live = true := by
      cases e : (ndI s i).live with
      | true => rfl
      | false =>
        unfold ndI at h e
        split at h
        · exact absurd rfl h
        · rename_i h2
          rw [if_neg h2] at e
          rw [hv.dead _ e] at h
          exact absurd rfl h
    rw [ndI_live hv] at hl
    exact ⟨hl, by rw [← ndI_at hl]; exact h⟩
  · rintro ⟨a, b⟩
    rw [ndI_at a]
    exact b
theorem out_eq (hv : Inv s) {i : Nat} (hp : (s.nd i).par ≠ 0) : (s.put (s.nd i).par { s.nd (s.nd i).par with kids := (s.nd (s.nd i).par).kids.filter (fun k => decide (k ≠ i)) }).put i { (s.put (s.nd i).par { s.nd (s.nd i).par with kids := (s.nd (s.nd i).par).kids.filter (fun k => decide (k ≠ i)) }).nd i with par := 0 } = s.out i := by
  rw [St.put_ne s _ (Ne.symm (hv.par_ne hp))]
  rfl
end
section
variable {ro : Ros} {D : Nat} {s : St}
set_option maxHeartbeats 1600000 in
theorem detach13_no (i : Int) (w : World) (h : Dom mP ro w D s) (hv : Inv s) (hm : ¬ s.mayDetach i) :
    Calls Try.prog 13 #[.pointer (some ⟨D, 0, none⟩), .int .i64 i] w (No w) := by
  have hk : (ndI s i).par = 0 := by
    by_cases e : (ndI s i).par = 0
    · exact e
    · exact absurd ((ndI_par hv i).1 e) hm
  have G := Lib.hid (get34 i w h hv)
  clear h hv hm
  go_enter Try.func13, Try.ntmps13
  go_wp2_with fail
  refine G.out.mono ?_
  rintro e w1 ⟨a1, k1, rfl, ha, hk1, hb⟩
  obtain ⟨A, a, rfl, _, _⟩ := ha.shape
  obtain ⟨K, k, rfl, _, _⟩ := hk1.shape
  rw [hk]
  clear ha hk1 hk
  go_wp2
  go_ret
  exact ⟨rfl, hb⟩

set_option maxHeartbeats 3200000 in
theorem detach13_yes (i : Nat) (w : World) (h : Dom mP ro w D s) (hv : Inv s) (hm : s.mayDetach i) (ht : s.top ≤ 1000000) :
    Calls Try.prog 13 #[.pointer (some ⟨D, 0, none⟩), .int .i64 i] w (Yes mP ro D (s.out i) w) := by
  obtain ⟨k0, e0, hi, _, _⟩ := lives_nat hv hm.1
  have hp0 := hm.2
  rw [Int.toNat_natCast] at hp0
  obtain rfl : i = k0 := by omega
  have hI : ndI s (i : Int) = s.nd i := by rw [ndI_at hm.1, Int.toNat_natCast]
  have G := get34 i w h hv
  rw [hI] at G
  have hin := hv.up i hp0
  have hp := (hv.live_pos (hv.par_live hp0)).2
  have hkl := kids_len hv (s.nd i).par
  obtain ⟨N, c, fv, av, kv, h⟩ := h
  have OE := Lib.hid (out_eq hv hp0)
  have R0 := Lib.hid h
  have V := Lib.hid hv
  have hne := hv.par_ne hp0
  clear h hv e0 hI
  obtain ⟨p, hpe⟩ : ∃ p, (s.nd i).par = p := ⟨_, rfl⟩
  have PE := Lib.hid hpe
  rw [hpe] at OE hp0 hin hp hkl hne
  obtain ⟨L, LE⟩ : ∃ L, (s.nd p).kids.filter (fun k => decide (k ≠ i)) = L := ⟨_, rfl⟩
  rw [LE] at OE
  replace LE := Lib.hid LE
  clear hpe
  replace G := Lib.hid G
  go_enter Try.func13, Try.ntmps13
  go_wp2_with fail
  refine G.out.mono ?_
  rintro e w01 ⟨a1, k1, rfl, ha, hk1, hb⟩
  obtain ⟨A, a, rfl, _, _⟩ := ha.shape
  obtain ⟨K, k, rfl, _, _⟩ := hk1.shape
  rw [PE.out]
  clear ha hk1
  have R1 := Lib.hid (R0.out.call hb)
  have HB := Lib.hid hb
  clear hb
  have hp1 : ((p : Int) == 0) = false := beqF (by omega)
  have hp2 : (p : Int) < (s.top : Int) + 1 := by omega
  have c0 := R1.out.c0
  obtain ⟨_, _, _, _, _, _, n6⟩ := R1.out.nc hp
  have KO1 := Lib.hid (R1.out.ki p hp).1
  obtain ⟨K2, k2, e2, _, _⟩ := (R1.out.ki p hp).shape
  have n6s := n6
  rw [e2] at n6
  go_wp2_with fail
  rw [e2] at KO1
  refine (index38 (s.nd p).kids i _ _ KO1.out hin (by omega)).mono ?_
  rintro e w1 ⟨⟨q, hq, hqi, rfl⟩, rfl⟩
  replace hqi := Lib.hid hqi
  have hq2 : (q : Int) < 1000000 := by omega
  go_wp2_with fail
  have KO := (R1.out.drew.ki p hp).1
  have KR := (R1.out.ki p hp).2
  rw [e2] at KO KR
  replace KO := Lib.hid KO
  replace KR := Lib.hid KR
  have wq : Hid (IntKind.i64.wrap ((q : Int) + 1) = (q : Int) + 1) := IntWalk.i64_in _ (by omega)
  have SS : ∀ W, Kp (fun k => ro k = 5 + p) w1 W → W.cell? ⟨D, 0, none⟩ = some (.slice (some ⟨N, 0, none⟩) (s.top + 1) c) ∧ W.cell? ⟨N, p * 7 + 6, none⟩ = some (kv p) ∧ W.frozen? ⟨N, p * 7 + 6, none⟩ = false := by
    intro W hW
    have hD : ¬ ro D = 5 + p := by rw [R1.out.rD]; omega
    have hN : ¬ ro N = 5 + p := by rw [R1.out.rN]; omega
    exact ⟨by rw [hW.cell R1.out.dlt hD]; exact R1.out.c0, by rw [hW.cell R1.out.nlt hN]; exact n6s, by rw [hW.frozen R1.out.nlt hN]; exact R1.out.nf _⟩
  have SH := Lib.hid SS
  clear SS c0 n6 n6s e2
  refine wp_region_ordN 12 ((true, 0) :: (true, 1) :: (true, 2) :: (true, 3) :: (true, 4) :: (true, 5) :: (true, 6) :: (true, 7) :: (true, 8) :: (false, 9) :: (true, 10) :: (true, 11) :: (false, 12) :: []) (fun W => Kp (fun k => ro k = 5 + p) w1 W) (by kernel_rfl) (by kernel_rfl) (by decide) (by kernel_rfl) (fun d _ _ _ _ h => by cases d <;> exact h) ((Kp.refl _ w1).drew) ?_
  refine ordn_q (d := some 25) (v := ?_) rfl rfl (Or.inl ⟨by rfl, ?_⟩) ?_
  rotate_left
  · intro wz hSw
    obtain ⟨c0, n6, g6⟩ := SH.out wz hSw
    go_simp
    (try with_reducible rfl)
  try simp only [Act.put, List.setIfInBounds_toArray, List.set_cons_zero, List.set_cons_succ]
  refine ordn_q (d := some 26) (v := ?_) rfl rfl (Or.inl ⟨by rfl, ?_⟩) ?_
  rotate_left
  · intro wz hSw
    obtain ⟨c0, n6, g6⟩ := SH.out wz hSw
    go_simp
    (try with_reducible rfl)
  try simp only [Act.put, List.setIfInBounds_toArray, List.set_cons_zero, List.set_cons_succ]
  refine ordn_q (d := some 27) (v := ?_) rfl rfl (Or.inl ⟨by rfl, ?_⟩) ?_
  rotate_left
  · intro wz hSw
    obtain ⟨c0, n6, g6⟩ := SH.out wz hSw
    go_simp
    (try with_reducible rfl)
  try simp only [Act.put, List.setIfInBounds_toArray, List.set_cons_zero, List.set_cons_succ]
  refine ordn_q (d := some 28) (v := ?_) rfl rfl (Or.inl ⟨by rfl, ?_⟩) ?_
  rotate_left
  · intro wz hSw
    obtain ⟨c0, n6, g6⟩ := SH.out wz hSw
    go_simp
    (try with_reducible rfl)
  try simp only [Act.put, List.setIfInBounds_toArray, List.set_cons_zero, List.set_cons_succ]
  refine ordn_q (d := some 29) (v := ?_) rfl rfl (Or.inl ⟨by rfl, ?_⟩) ?_
  rotate_left
  · intro wz hSw
    obtain ⟨c0, n6, g6⟩ := SH.out wz hSw
    go_simp
    (try with_reducible rfl)
  try simp only [Act.put, List.setIfInBounds_toArray, List.set_cons_zero, List.set_cons_succ]
  refine ordn_q (d := some 30) (v := ?_) rfl rfl (Or.inl ⟨by rfl, ?_⟩) ?_
  rotate_left
  · intro wz hSw
    obtain ⟨c0, n6, g6⟩ := SH.out wz hSw
    go_simp
    (try with_reducible rfl)
  try simp only [Act.put, List.setIfInBounds_toArray, List.set_cons_zero, List.set_cons_succ]
  refine ordn_q (d := some 31) (v := ?_) rfl rfl (Or.inl ⟨by rfl, ?_⟩) ?_
  rotate_left
  · intro wz hSw
    obtain ⟨c0, n6, g6⟩ := SH.out wz hSw
    go_simp
    (try with_reducible rfl)
  try simp only [Act.put, List.setIfInBounds_toArray, List.set_cons_zero, List.set_cons_succ]
  refine ordn_q (d := some 32) (v := ?_) rfl rfl (Or.inl ⟨by rfl, ?_⟩) ?_
  rotate_left
  · intro wz hSw
    obtain ⟨c0, n6, g6⟩ := SH.out wz hSw
    go_simp
    (try with_reducible rfl)
  try simp only [Act.put, List.setIfInBounds_toArray, List.set_cons_zero, List.set_cons_succ]
  refine ordn_q (d := some 33) (v := ?_) rfl rfl (Or.inl ⟨by rfl, ?_⟩) ?_
  rotate_left
  · intro wz hSw
    obtain ⟨c0, n6, g6⟩ := SH.out wz hSw
    go_simp
    (try with_reducible rfl)
  try simp only [Act.put, List.setIfInBounds_toArray, List.set_cons_zero, List.set_cons_succ]
  refine ordn_l ?_
  refine wpOp_step rfl (fun K' hK => ?_)
  have HK := Lib.hid hK
  clear hK
  rw [if_pos (by rfl)]
  go_simp
  rw [wq.out]
  refine (delete39 (s.nd p).kids q (.slice K2 (s.nd p).kids.length k2) w1.drew KO.out hq).mono ?_
  rintro e w2 ⟨v2, rfl, h2, hv2, hk2⟩
  have KP2 := Lib.hid (((Kp.refl (fun k => ro k = 5 + p) w1).drew).trans hk2 (fun k _ e => KR.out k e))
  have E2 : Hid ((s.nd p).kids.take q ++ (s.nd p).kids.drop (q + 1) = L) := by rw [← LE.out, ← hqi.out]; exact take_drop_filter (V.out.nodup p) hq
  rw [E2.out] at h2
  have TU := Lib.hid (R1.out.setK hp _ KP2.out h2 (fun g hg => Or.inl (KR.out g (hv2 ▸ hg))) (fun _ => rfl))
  obtain ⟨A2, c2, rfl⟩ := owns_shape h2
  clear h2 hv2 hk2
  refine HK.out _ _ ⟨KP2.out, ?_⟩
  clear HK
  try change OrdN _ _ _ _ _ _ (Act.put _ (some 34) _) _
  try simp only [Act.put, List.setIfInBounds_toArray, List.set_cons_zero, List.set_cons_succ]
  refine ordn_q (d := some 35) (v := ?_) rfl rfl (Or.inl ⟨by rfl, ?_⟩) ?_
  rotate_left
  · intro wz hSw
    obtain ⟨c0, n6, g6⟩ := SH.out wz hSw
    go_simp
    (try with_reducible rfl)
  try simp only [Act.put, List.setIfInBounds_toArray, List.set_cons_zero, List.set_cons_succ]
  refine ordn_q (d := some 36) (v := ?_) rfl rfl (Or.inl ⟨by rfl, ?_⟩) ?_
  rotate_left
  · intro wz hSw
    obtain ⟨c0, n6, g6⟩ := SH.out wz hSw
    go_simp
    (try with_reducible rfl)
  try simp only [Act.put, List.setIfInBounds_toArray, List.set_cons_zero, List.set_cons_succ]
  refine ordn_last ?_
  refine wpOp_step rfl (fun K' hK => ?_)
  have HK := Lib.hid hK
  clear hK
  rw [if_pos (by rfl)]
  obtain ⟨c0, n6, g6⟩ := SH.out _ KP2.out
  go_simp
  refine HK.out _ _ ?_
  clear HK
  try simp only [Act.put, List.setIfInBounds_toArray, List.set_cons_zero, List.set_cons_succ]

  clear SH c0 n6 g6
  obtain ⟨ro3, R3, o3, m3, k3⟩ := TU.out
  generalize w2.setCell _ _ = w3 at *
  replace R3 := Lib.hid R3
  replace o3 := Lib.hid o3
  replace m3 := Lib.hid m3
  replace k3 := Lib.hid k3
  have hi2 : (i : Int) < (s.top : Int) + 1 := by omega
  have c0 := R3.out.c0
  rw [show (s.put p { s.nd p with kids := L }).top = s.top from rfl] at c0
  obtain ⟨x5, n5⟩ : ∃ x5 : Value, w3.cell? ⟨N, i * 7 + 5, none⟩ = some x5 := ⟨_, (R3.out.nc (i := i) hi).2.2.2.2.2.1⟩
  have g5 := R3.out.nf (i * 7 + 5)
  have R4a := R3.out.setP (i := i) hi 0 (fun _ => rfl)
  rw [OE.out] at R4a
  have R4 : Hid (Rel mP ro3 (w3.setCell ⟨N, i * 7 + 5, none⟩ (.int .i64 0)) D N c fv _ _ (s.out i)) := R4a
  clear R4a OE
  have rN := R3.out.rN
  clear TU
  go_wp2
  go_ret
  have hrN : ro N ≠ 0 := by rw [R1.out.rN]; decide
  have K4 : Kp (fun k => ro k ≠ 0 ∧ True) w1 (w3.setCell ⟨N, i * 7 + 5, none⟩ (.int .i64 0)) := k3.out.setCell (p := ⟨N, i * 7 + 5, none⟩) (fun _ => ⟨hrN, trivial⟩) _
  have T4 : Turn mP ro D (s.out i) (fun _ => True) w1 (w3.setCell ⟨N, i * 7 + 5, none⟩ (.int .i64 0)) := ⟨ro3, ⟨N, c, fv, _, _, R4.out⟩, o3.out, m3.out, K4⟩
  exact ⟨rfl, Turn.pre HB.out T4⟩
/-- either way -/
theorem detachL (i : Nat) (w : World) (h : Dom mP ro w D s) (hv : Inv s) (hl : s.lives i = true) (ht : s.top ≤ 1000000) :
    Calls Try.prog 13 #[.pointer (some ⟨D, 0, none⟩), .int .i64 i] w fun e w' => (∃ b, e = .returned (.bool b)) ∧ Turn mP ro D (s.loosen i) (fun _ => True) w w' := by
  unfold St.loosen
  by_cases e : (s.nd i).par = 0
  · rw [if_pos e]
    refine (detach13_no i w h hv (fun hm => hm.2 (by rw [Int.toNat_natCast]; exact e))).mono ?_
    rintro e w' ⟨rfl, hb⟩
    exact ⟨⟨_, rfl⟩, ro, h.call hb, fun _ _ => rfl, fun _ hk => Or.inl hk, Kp.of_below hb _⟩
  · rw [if_neg e]
    refine (detach13_yes i w h hv ⟨hl, by rw [Int.toNat_natCast]; exact e⟩ ht).mono ?_
    rintro e w' ⟨rfl, ht⟩
    exact ⟨⟨_, rfl⟩, ht⟩
end
end Go.Proofs.Ytdbnhpghemlkbaa
