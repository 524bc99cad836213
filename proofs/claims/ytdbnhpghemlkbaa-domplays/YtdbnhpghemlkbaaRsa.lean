/-
  The reference: Attrs, Say.
-/
import Derived.Test.YtdbnhpghemlkbaaRfa
import Derived.Test.YtdbnhpghemlkbaaSay
namespace Go.Proofs.Ytdbnhpghemlkbaa
open Go.RowKit Go.PlainAid Dm
set_option maxRecDepth 100000

theorem owns_news {w : World} {B n : Nat} {e : TypeId} {size : Nat} {v : Value} {xs : List Value} (h : w.ownsRow B e size v n xs) (hn : 0 < n) : ∃ (ad : Addr) (c : Nat), v = .slice (some ad) n c ∧ ∀ j u, xs[j]? = some u → w.cell? (ad.add j) = some u := by
  rcases h.2 with ⟨_, h0⟩ | ⟨g, cap, cur, rfl, _⟩
  · omega
  · exact ⟨⟨g, 0, none⟩, cap, rfl, fun j u hu => h.cells rfl j u hu⟩
theorem grown_kp2 {w w' : World} {row : Option Nat} (hg : w.grownBy w' row) : Kp (fun k => row = some k) w w' := (Kp.refl _ w).grown hg (fun _ _ e => e)
section
variable {ro : Ros} {D : Nat} {s : St}
/-- a call that changes nothing -/
def NoR (w : World) (e : Ending) (w' : World) : Prop := e = .returned (.bool false) ∧ w = w'
set_option maxHeartbeats 1600000 in
theorem say22_no (i : Int) (x : ByteArray) (w : World) (h : Dom mR ro w D s) (hv : Inv s) (hm : ¬ s.maySay i) :
    Calls Try.prog 22 #[.pointer (some ⟨D, 0, none⟩), .int .i64 i, .string x] w (NoR w) := by
  have G := Lib.hid (lives43 i w h hv)
  cases hl : s.lives i with
  | false =>
    clear h hv hm
    go_enter Try.func22, Try.ntmps22
    go_wp2_with fail
    refine G.out.mono ?_
    rintro e w' ⟨rfl, rfl⟩
    rw [hl]
    go_wp2
    go_ret
    exact ⟨rfl, rfl⟩
  | true =>
    obtain ⟨k, rfl, hk, _, _⟩ := lives_nat hv hl
    have e : (s.nd k).tag ≠ ⟨#[]⟩ := fun e => hm ⟨hl, by rw [Int.toNat_natCast]; exact e⟩
    have he := isEmpty_ne e
    obtain ⟨N, c, fv, av, kv, h⟩ := h
    have c0 := h.c0
    obtain ⟨_, n1, _⟩ := h.nc hk
    have hk2 : (k : Int) < (s.top : Int) + 1 := by omega
    clear h hv hm e
    go_enter Try.func22, Try.ntmps22
    go_wp2_with fail
    refine G.out.mono ?_
    rintro e w' ⟨rfl, rfl⟩
    rw [hl]
    go_wp2
    go_ret
    exact ⟨rfl, rfl⟩
set_option maxHeartbeats 1600000 in
theorem say22_yes (i : Nat) (x : ByteArray) (w : World) (h : Dom mR ro w D s) (hv : Inv s) (hm : s.maySay i) :
    Calls Try.prog 22 #[.pointer (some ⟨D, 0, none⟩), .int .i64 i, .string x] w (Yes mR ro D (s.setText i x) w) := by
  have G := Lib.hid (lives43 i w h hv)
  obtain ⟨k, e0, hi, _, _⟩ := lives_nat hv hm.1
  obtain rfl : i = k := by omega
  have hl := hm.1
  have e : (s.nd i).tag = ⟨#[]⟩ := by have := hm.2; rwa [Int.toNat_natCast] at this
  obtain ⟨N, c, fv, av, kv, h⟩ := h
  have c0 := h.c0
  obtain ⟨_, n1, _, n3, _⟩ := h.nc hi
  rw [e] at n1
  have g3 := h.nf (i * 7 + 3)
  have hi2 : (i : Int) < (s.top : Int) + 1 := by omega
  have TU := Lib.hid (h.setT hi x (fun _ => rfl))
  clear h hv hm e e0
  go_enter Try.func22, Try.ntmps22
  go_wp2_with fail
  refine G.out.mono ?_
  rintro e w' ⟨rfl, rfl⟩
  rw [hl]
  go_wp2
  go_ret
  exact ⟨rfl, TU.out⟩
set_option maxHeartbeats 1600000 in
theorem attrs20_no (i : Int) (A : Option Addr) (n c : Nat) (w : World) (h : Dom mR ro w D s) (hv : Inv s) (hm : ¬ s.mayAttrs i) :
    Calls Try.prog 20 #[.pointer (some ⟨D, 0, none⟩), .int .i64 i, .slice A n c] w (NoR w) := by
  have G := Lib.hid (lives43 i w h hv)
  cases hl : s.lives i with
  | false =>
    clear h hv hm
    go_enter Try.func20, Try.ntmps20
    go_wp2_with fail
    refine G.out.mono ?_
    rintro e w' ⟨rfl, rfl⟩
    rw [hl]
    go_wp2
    go_ret
    exact ⟨rfl, rfl⟩
  | true =>
    obtain ⟨k, rfl, hk, _, _⟩ := lives_nat hv hl
    have e : (s.nd k).tag = ⟨#[]⟩ := by
      by_cases e : (s.nd k).tag = ⟨#[]⟩
      · exact e
      · exact absurd ⟨hl, by rw [Int.toNat_natCast]; exact e⟩ hm
    obtain ⟨N, cN, fv, av, kv, h⟩ := h
    have c0 := h.c0
    obtain ⟨_, n1, _⟩ := h.nc hk
    rw [e] at n1
    have hk2 : (k : Int) < (s.top : Int) + 1 := by omega
    clear h hv hm e
    go_enter Try.func20, Try.ntmps20
    go_wp2_with fail
    refine G.out.mono ?_
    rintro e w' ⟨rfl, rfl⟩
    rw [hl]
    go_wp2
    go_ret
    exact ⟨rfl, rfl⟩
set_option maxHeartbeats 3200000 in
theorem attrs20_yes (i : Nat) (v : Value) (l : List (Tx × Tx)) (w : World) (h : Dom mR ro w D s) (hv : Inv s) (hm : s.mayAttrs i) (hlw : w.ownsRow 0 45 2 v l.length (l.flatMap atC)) (hpos : 0 < l.length) (hn : l.length ≤ 100000000) :
    Calls Try.prog 20 #[.pointer (some ⟨D, 0, none⟩), .int .i64 i, v] w (Yes mR ro D (s.setAttrs i l) w) := by
  have G := Lib.hid (lives43 i w h hv)
  obtain ⟨k, e0, hi, _, _⟩ := lives_nat hv hm.1
  obtain rfl : i = k := by omega
  have hl := hm.1
  have e : (s.nd i).tag ≠ ⟨#[]⟩ := by have := hm.2; rwa [Int.toNat_natCast] at this
  have he := isEmpty_ne e
  obtain ⟨N, c, fv, av, kv, h⟩ := h
  have R0 := Lib.hid h
  have HL := Lib.hid hlw
  have c0 := h.c0
  obtain ⟨_, n1, _⟩ := h.nc hi
  have hi2 : (i : Int) < (s.top : Int) + 1 := by omega
  clear h hv hm e e0 hlw
  go_enter Try.func20, Try.ntmps20
  go_wp2_with fail
  refine G.out.mono ?_
  rintro e w' ⟨rfl, rfl⟩
  rw [hl]
  go_upto_region 3 with fail
  have SH : Hid (∀ W, Below w.heap.size w W → W.cell? ⟨D, 0, none⟩ = some (.slice (some ⟨N, 0, none⟩) (s.top + 1) c) ∧ W.cell? ⟨N, i * 7 + 4, none⟩ = some (av i) ∧ W.frozen? ⟨N, i * 7 + 4, none⟩ = false) := fun W hW => ⟨(R0.out.call hW).c0, ((R0.out.call hW).nc hi).2.2.2.2.1, (R0.out.call hW).nf _⟩
  clear c0 n1 G hl he
  refine wp_region_ordN 10 ((true, 0) :: (true, 1) :: (true, 2) :: (true, 3) :: (true, 4) :: (true, 6) :: (false, 5) :: (false, 7) :: (true, 8) :: (true, 9) :: (false, 10) :: []) (fun W => Below w.heap.size w W) (by kernel_rfl) (by kernel_rfl) (by decide) (by kernel_rfl) (fun d _ _ _ _ h => by cases d <;> exact h) ((Below.refl _ w).drew) ?_
  refine ordn_q (d := some 22) (v := ?_) rfl rfl (Or.inl ⟨by rfl, ?_⟩) ?_
  rotate_left
  · intro wz hSw
    obtain ⟨c0, n4, g4⟩ := SH.out wz hSw
    go_simp
    (try with_reducible rfl)
  try simp only [Act.put, List.setIfInBounds_toArray, List.set_cons_zero, List.set_cons_succ]
  refine ordn_q (d := some 23) (v := ?_) rfl rfl (Or.inl ⟨by rfl, ?_⟩) ?_
  rotate_left
  · intro wz hSw
    obtain ⟨c0, n4, g4⟩ := SH.out wz hSw
    go_simp
    (try with_reducible rfl)
  try simp only [Act.put, List.setIfInBounds_toArray, List.set_cons_zero, List.set_cons_succ]
  refine ordn_q (d := some 24) (v := ?_) rfl rfl (Or.inl ⟨by rfl, ?_⟩) ?_
  rotate_left
  · intro wz hSw
    obtain ⟨c0, n4, g4⟩ := SH.out wz hSw
    go_simp
    (try with_reducible rfl)
  try simp only [Act.put, List.setIfInBounds_toArray, List.set_cons_zero, List.set_cons_succ]
  refine ordn_q (d := some 25) (v := ?_) rfl rfl (Or.inl ⟨by rfl, ?_⟩) ?_
  rotate_left
  · intro wz hSw
    obtain ⟨c0, n4, g4⟩ := SH.out wz hSw
    go_simp
    (try with_reducible rfl)
  try simp only [Act.put, List.setIfInBounds_toArray, List.set_cons_zero, List.set_cons_succ]
  refine ordn_q (d := some 26) (v := ?_) rfl rfl (Or.inl ⟨by rfl, ?_⟩) ?_
  rotate_left
  · intro wz hSw
    obtain ⟨c0, n4, g4⟩ := SH.out wz hSw
    go_simp
    (try with_reducible rfl)
  try simp only [Act.put, List.setIfInBounds_toArray, List.set_cons_zero, List.set_cons_succ]
  refine ordn_q (d := some 28) (v := ?_) rfl rfl (Or.inl ⟨by rfl, ?_⟩) ?_
  rotate_left
  · intro wz hSw
    obtain ⟨c0, n4, g4⟩ := SH.out wz hSw
    go_simp
    (try with_reducible rfl)
  try simp only [Act.put, List.setIfInBounds_toArray, List.set_cons_zero, List.set_cons_succ]
  refine ordn_l ?_
  refine wpOp_step rfl (fun K' hK => ?_)
  have HK := Lib.hid hK
  clear hK
  rw [if_pos (by rfl)]
  go_simp
  have C0 : Hid (((w.alloc (.cells #[] 45 (0, 0))).drew).ownsRow w.heap.size 45 2 (.slice (some ⟨w.heap.size, 0, none⟩) 0 0) 0 []) := World.ownsRow_lit w #[] 0 (Nat.le_refl _) (by decide) rfl
  have B0 := Lib.hid (((Below.refl _ w).alloc (Nat.le_refl _) (.cells #[] 45 (0, 0))).drew)
  have HL0 := Lib.hid (owns_same HL.out (fun g hg => B0.out.block g (HL.out.lt g hg).2))
  generalize (w.alloc _).drew = w1 at *
  refine HK.out _ _ ⟨B0.out, ?_⟩
  clear HK
  try change OrdN _ _ _ _ _ _ (Act.put _ (some 27) _) _
  try simp only [Act.put, List.setIfInBounds_toArray, List.set_cons_zero, List.set_cons_succ]
  refine ordn_l ?_
  refine wpOp_step rfl (fun K' hK => ?_)
  have HK := Lib.hid hK
  clear hK
  rw [if_pos (by rfl)]
  obtain ⟨ad, cL, ev, hnews⟩ := owns_news HL0.out hpos
  subst ev
  refine wp_app elA w1 _ _ rfl w.heap.size (.slice (some ⟨w.heap.size, 0, none⟩) 0 0) 0 [] rfl C0.out B0.out.size ad l.length cL (l.flatMap atC) rfl HL0.out.1 hnews (atC_one l) (by decide) hn ?_
  intro v2 w2 h2 hg2 hv2
  rw [Nat.zero_add, List.nil_append] at h2
  have B2 := Lib.hid (B0.out.trans ((grown_kp2 hg2).below B0.out.size (fun k hk e => by have := (C0.out.lt k e).1; omega)))
  have TU := Lib.hid (R0.out.setA hi l B2.out h2 (fun _ => rfl))
  obtain ⟨A, c2, rfl⟩ := owns_shape h2
  clear h2 hg2 hv2 hnews
  refine HK.out _ _ ⟨B2.out, ?_⟩
  clear HK
  try change OrdN _ _ _ _ _ _ (Act.put _ (some 29) _) _
  try simp only [Act.put, List.setIfInBounds_toArray, List.set_cons_zero, List.set_cons_succ]
  refine ordn_q (d := some 30) (v := ?_) rfl rfl (Or.inl ⟨by rfl, ?_⟩) ?_
  rotate_left
  · intro wz hSw
    obtain ⟨c0, n4, g4⟩ := SH.out wz hSw
    go_simp
    (try with_reducible rfl)
  try simp only [Act.put, List.setIfInBounds_toArray, List.set_cons_zero, List.set_cons_succ]
  refine ordn_q (d := some 31) (v := ?_) rfl rfl (Or.inl ⟨by rfl, ?_⟩) ?_
  rotate_left
  · intro wz hSw
    obtain ⟨c0, n4, g4⟩ := SH.out wz hSw
    go_simp
    (try with_reducible rfl)
  try simp only [Act.put, List.setIfInBounds_toArray, List.set_cons_zero, List.set_cons_succ]
  refine ordn_last ?_
  refine wpOp_step rfl (fun K' hK => ?_)
  have HK := Lib.hid hK
  clear hK
  rw [if_pos (by rfl)]
  obtain ⟨c0, n4, g4⟩ := SH.out _ B2.out
  go_simp
  refine HK.out _ _ ?_
  clear HK
  try simp only [Act.put, List.setIfInBounds_toArray, List.set_cons_zero, List.set_cons_succ]

  clear SH c0 n4 g4
  generalize w2.setCell _ _ = w3 at *
  go_wp2
  go_ret
  exact ⟨rfl, TU.out⟩
end
end Go.Proofs.Ytdbnhpghemlkbaa
