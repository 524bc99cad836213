/-
  The reference: Insert.
-/
import Derived.Test.YtdbnhpghemlkbaaRou
import Derived.Test.YtdbnhpghemlkbaaIsr
import Derived.Test.YtdbnhpghemlkbaaVee
import Derived.Deep.CutBlock
import Derived.Deep.DeepCutAuto
namespace Go.Proofs.Ytdbnhpghemlkbaa
open Go.RowKit Go.PlainAid Dm
set_option maxRecDepth 100000

namespace In
theorem ni_cap {w : World} {A : Option Addr} {c n : Nat} {l : List Nat} (h : Ni w (.slice A n c) l) : l.length ≤ c := by
  obtain ⟨A', c', e, h2, _⟩ := h
  cases e
  exact h2
theorem ni_from {w : World} {A : Option Addr} {c n : Nat} {l : List Nat} (h : Ni w (.slice A n c) l) (r : Nat) (hr : r ≤ l.length) : Ni w (.slice (if c = r then A else Option.map (fun x => x.add r) A) (n - r) (c - r)) (l.drop r) := by
  have hc := ni_cap h
  obtain rfl : n = l.length := by obtain ⟨_, _, e, _⟩ := h; cases e; rfl
  refine h.rest r hr rfl rfl (fun b o e hl => ?_) (fun e => ?_)
  · subst e
    rw [if_neg (by omega)]
    show some ((⟨b, o, none⟩ : Addr).add r) = _
    rw [Addr.add_lit]
  · split at e
    · exact e
    · cases A with
      | none => rfl
      | some a => cases e
/-- a call's own row under way -/
structure Cs (wr w : World) (v : Value) (l : List Nat) : Prop where
  bw : Below wr.heap.size wr w
  ow : w.ownsRow wr.heap.size 3 1 v l.length (niC l)
def On (w : World) (v : Value) (nb x : Nat) : Prop := nb < w.heap.size ∧ (∀ g, v.ownBlock = some g → g ≠ nb) ∧ Ni w (.slice (some ⟨nb, 0, none⟩) 1 1) [x]
theorem cs_nil {wr W : World} (h : Below wr.heap.size wr W) : Cs wr (W.alloc (.cells #[] 3 (0, 0))) (.slice (some ⟨W.heap.size, 0, none⟩) 0 0) [] :=
  ⟨h.alloc h.size _, World.ownsRow_lit W #[] 0 h.size (by decide) rfl⟩
theorem Cs.alloc {wr w : World} {v : Value} {l : List Nat} (h : Cs wr w v l) (o : Obj) : Cs wr (w.alloc o) v l :=
  ⟨h.bw.alloc h.bw.size o, owns_sameB h.ow (fun g hg => ((Below.refl _ w).alloc (Nat.le_refl _) o).block g (h.ow.lt g hg).2)⟩
theorem Cs.on {wr w : World} {v : Value} {l : List Nat} (h : Cs wr w v l) (x : Nat) : On (w.alloc (.cells #[.int .i64 (x : Int)] 3 (0, 0))) v w.heap.size x :=
  ⟨by simp, fun g hg => by have := (h.ow.lt g hg).2; omega, ni_one (blk_new w _)⟩
theorem on_nil {w : World} {nb x : Nat} (h : nb < w.heap.size) (hn : Ni w (.slice (some ⟨nb, 0, none⟩) 1 1) [x]) (o : Obj) : On (w.alloc o) (.slice (some ⟨w.heap.size, 0, none⟩) 0 0) nb x :=
  ⟨by simp; omega, fun g hg => (by cases hg; exact Nat.ne_of_gt h), hn.call ((Below.refl _ w).alloc (Nat.le_refl _) o)⟩
theorem wp_cs {o : Oper} {a : Act} {K : Act → World → Prop} {Q : Exit → Act → World → Prop} {wr w : World} {v : Value} {xs : List Nat} (hC : Cs wr w v xs) (s x : Operand) (ho : o.op = .call { callee := .builtin .append, args := #[s, x], argTypes := #[51, 51] }) (hs : a.eval s = v) (sv : Value) (ys : List Nat) (hx : a.eval x = sv) (hr : Ni w sv ys) (hn : xs.length ≤ 100000000) (hm : ys.length ≤ 100000000)
    (h : ∀ v' w', Cs wr w' v' (xs ++ ys) → (∀ nb x, On w v nb x → On w' v' nb x) → K (a.put o.dst v') w') : o.wp Try.prog a w K Q := by
  refine wp_cat w s x ho wr.heap.size v xs hs hC.ow hC.bw.size sv ys hx hr hn hm (fun v' w' h1 h2 h3 => h v' w' ⟨?_, h1⟩ ?_)
  · have hk : Kp (fun k => v.ownBlock = some k) w w' := (Kp.refl _ w).grown h2 (fun k _ e => e)
    exact hC.bw.trans (hk.below hC.bw.size (fun k hk e => by have := (hC.ow.lt k e).1; omega))
  · rintro nb x ⟨g1, g2, g3⟩
    have hk : Kp (fun k => v.ownBlock = some k) w w' := (Kp.refl _ w).grown h2 (fun k _ e => e)
    refine ⟨Nat.lt_of_lt_of_le g1 hk.size, fun g hg => ?_, ?_⟩
    · rcases h3 with e | e
      · exact g2 g (by rw [← e]; exact hg)
      · rw [e] at hg
        cases hg
        omega
    · obtain ⟨A, c, e, q1, q2, q3⟩ := g3
      refine ⟨A, c, e, q1, q2, fun i hi => ?_⟩
      obtain ⟨b, o, e1, e2⟩ := q3 i hi
      refine ⟨b, o, e1, ?_⟩
      rw [e1] at e
      cases e
      rw [hk.cell g1 (fun e => g2 _ e rfl)]
      exact e2
end In
open In
section
variable {ro : Ros} {D : Nat} {s : St}
set_option maxHeartbeats 3200000 in
theorem insert23_no (p x t : Int) (w : World) (h : Dom mR ro w D s) (hv : Inv s) (hm : ¬ s.mayInsert p x) :
    Calls Try.prog 23 #[.pointer (some ⟨D, 0, none⟩), .int .i64 p, .int .i64 x, .int .i64 t] w (NoR w) := by
  have G := Lib.hid (lives43 p w h hv)
  have G2 := Lib.hid (lives43 x w h hv)
  cases hl : s.lives p with
  | false =>
    clear h hv hm
    go_enter Try.func23, Try.ntmps23
    go_wp2_with fail
    refine G.out.mono ?_
    rintro e w' ⟨rfl, rfl⟩
    rw [hl]
    go_wp2
    go_ret
    exact ⟨rfl, rfl⟩
  | true =>
    cases hl2 : s.lives x with
    | false =>
      clear h hv hm
      go_enter Try.func23, Try.ntmps23
      go_wp2_with fail
      refine G.out.mono ?_
      rintro e w' ⟨rfl, rfl⟩
      rw [hl]
      go_wp2_with fail
      refine G2.out.mono ?_
      rintro e w' ⟨rfl, rfl⟩
      rw [hl2]
      go_wp2
      go_ret
      exact ⟨rfl, rfl⟩
    | true =>
      obtain ⟨k, rfl, hk, _, _⟩ := lives_nat hv hl
      obtain ⟨j, rfl, hj, _, hj0⟩ := lives_nat hv hl2
      have hk2 : (k : Int) < (s.top : Int) + 1 := by omega
      by_cases e : (s.nd k).tag = ⟨#[]⟩
      · obtain ⟨N, c, fv, av, kv, h⟩ := h
        have c0 := h.c0
        obtain ⟨_, n1, _⟩ := h.nc hk
        rw [e] at n1
        clear h hv hm e
        go_enter Try.func23, Try.ntmps23
        go_wp2_with fail
        refine G.out.mono ?_
        rintro e w' ⟨rfl, rfl⟩
        rw [hl]
        go_wp2_with fail
        refine G2.out.mono ?_
        rintro e w' ⟨rfl, rfl⟩
        rw [hl2]
        go_wp2
        go_ret
        exact ⟨rfl, rfl⟩
      · have he := isEmpty_ne e
        by_cases e1 : j = 1
        · subst e1
          obtain ⟨N, c, fv, av, kv, h⟩ := h
          have c0 := h.c0
          obtain ⟨_, n1, _⟩ := h.nc hk
          clear h hv hm e
          go_enter Try.func23, Try.ntmps23
          go_wp2_with fail
          refine G.out.mono ?_
          rintro e w' ⟨rfl, rfl⟩
          rw [hl]
          go_wp2_with fail
          refine G2.out.mono ?_
          rintro e w' ⟨rfl, rfl⟩
          rw [hl2]
          go_wp2
          go_ret
          exact ⟨rfl, rfl⟩
        · have q1 : ((j : Int) == 1) = false := beqF (by omega)
          have hh : s.holds j k := by
            by_cases e2 : s.holds j k
            · exact e2
            · exact absurd ⟨hl, hl2, by rw [Int.toNat_natCast]; exact e, by omega, by rw [Int.toNat_natCast, Int.toNat_natCast]; exact e2⟩ hm
          have E : Hid (hldB s j k = true) := hldB_true.2 hh
          have HH := Lib.hid (holds44 j k w h hv hj hk hj0)
          obtain ⟨N, c, fv, av, kv, h⟩ := h
          have c0 := h.c0
          obtain ⟨_, n1, _⟩ := h.nc hk
          clear h hv hm e hh
          go_enter Try.func23, Try.ntmps23
          go_wp2_with fail
          refine G.out.mono ?_
          rintro e w' ⟨rfl, rfl⟩
          rw [hl]
          go_wp2_with fail
          refine G2.out.mono ?_
          rintro e w' ⟨rfl, rfl⟩
          rw [hl2]
          go_wp2_with fail
          refine HH.out.mono ?_
          rintro e w' ⟨rfl, rfl⟩
          rw [E.out]
          go_wp2
          go_ret
          exact ⟨rfl, rfl⟩
set_option maxHeartbeats 6400000 in
theorem insert23_yes (p x : Nat) (at_ : Int) (w : World) (h : Dom mR ro w D s) (hv : Inv s) (hm : s.mayInsert p x) (ht : s.top ≤ 1000000) :
    Calls Try.prog 23 #[.pointer (some ⟨D, 0, none⟩), .int .i64 p, .int .i64 x, .int .i64 at_] w (Yes mR ro D (s.insert p x at_) w) := by
  have G := Lib.hid (lives43 p w h hv)
  have G2 := Lib.hid (lives43 x w h hv)
  have H := Lib.hid h
  have V := Lib.hid hv
  obtain ⟨hl, hl2, htg, hx1, hnh⟩ := hm
  rw [Int.toNat_natCast] at htg hnh
  rw [Int.toNat_natCast] at hnh
  obtain ⟨p', ep', hp, _, _⟩ := lives_nat hv hl
  obtain ⟨c', ec', hx, _, hx0⟩ := lives_nat hv hl2
  obtain rfl : p = p' := by omega
  obtain rfl : x = c' := by omega
  have he := isEmpty_ne htg
  have q3 : ((x : Int) == 1) = false := beqF hx1
  have E : Hid (hldB s x p = false) := hldB_false.2 hnh
  have hne : p ≠ x := fun e => hnh (e ▸ holds_self (by omega))
  have HH := Lib.hid (holds44 x p w h hv hx hp hx0)
  have hp2 : (p : Int) < (s.top : Int) + 1 := by omega
  have hx2 : (x : Int) < (s.top : Int) + 1 := by omega
  obtain ⟨N, c, fv, av, kv, h⟩ := h
  have c0 := h.c0
  obtain ⟨_, n1, _⟩ := h.nc hp
  obtain ⟨_, _, _, _, _, n5, _⟩ := h.nc hx
  clear h hv hnh htg hx1 ep' ec'
  go_enter Try.func23, Try.ntmps23
  go_wp2_with fail
  refine G.out.mono ?_
  rintro e w' ⟨rfl, rfl⟩
  rw [hl]
  go_wp2_with fail
  refine G2.out.mono ?_
  rintro e w' ⟨rfl, rfl⟩
  rw [hl2]
  go_wp2_with fail
  refine HH.out.mono ?_
  rintro e w' ⟨rfl, rfl⟩
  rw [E.out]
  go_upto_if 50 with fail
  go_cut [] (fun wz => Hid (Turn mR ro D (s.loosen x) (fun _ => True) w wz))
  case first =>
    by_cases hpar : (s.nd x).par = 0
    · have d0 : ¬ (0 : Int) < ((s.nd x).par : Int) := by omega
      have LO : s.loosen x = s := by unfold St.loosen; rw [if_pos hpar]
      have TU : Turn mR ro D (s.loosen x) (fun _ => True) w w := by
        rw [LO]
        exact ⟨ro, H.out, fun _ _ => rfl, fun _ e => Or.inl e, Kp.refl _ w⟩
      replace TU := Lib.hid TU
      clear LO hpar
      go_wp2_with fail
      go_meet
      exact TU
    · have d0 : (0 : Int) < ((s.nd x).par : Int) := by omega
      have LO : s.loosen x = s.out x := by unfold St.loosen; rw [if_neg hpar]
      have OU0 := out45 x w H.out V.out hpar hx ht
      rw [← LO] at OU0
      have OU := Lib.hid OU0
      clear LO hpar OU0
      go_wp2_with fail
      refine OU.out.mono ?_
      rintro e w3 ⟨rfl, TU⟩
      replace TU := Lib.hid TU
      go_wp2_with fail
      go_meet
      exact TU
  case rest =>
    obtain ⟨ro1, hD4, o4, m4, k4⟩ := hcut.out
    have V1 := Lib.hid (inv_loosen V.out x)
    have hkl := kids_len V1.out p
    have IN : Hid (s.insert p x at_ = (s.loosen x).attach p x (atN at_ ((s.loosen x).nd p).kids.length)) := rfl
    have ht1 : (s.loosen x).top = s.top := by unfold St.loosen; split <;> rfl
    rw [ht1] at hkl
    replace ht1 := Lib.hid ht1
    clear hcut c0 n1 n5 E HH G G2 V H he
    generalize s.loosen x = s1 at *
    have hp1 : p ≤ s1.top := by rw [ht1.out]; exact hp
    have hx1 : x ≤ s1.top := by rw [ht1.out]; exact hx
    have hp3 : (p : Int) < (s1.top : Int) + 1 := by omega
    have hx3 : (x : Int) < (s1.top : Int) + 1 := by omega
    obtain ⟨N, c, fv, av, kv, hR⟩ := hD4
    have R1 := Lib.hid hR
    have O4 := Lib.hid o4
    have M4 := Lib.hid m4
    have K4 := Lib.hid k4
    clear hR o4 m4 k4
    have c0 := R1.out.c0
    obtain ⟨_, _, _, _, _, _, n6⟩ := R1.out.nc hp1
    obtain ⟨K2, k2, e2, _, _⟩ := (R1.out.ki p hp1).shape
    have NK := Lib.hid (owns_ni (R1.out.ki p hp1).1)
    rw [e2] at n6 NK
    clear e2
    obtain ⟨kk, hkk0⟩ : ∃ kk, kk = atN at_ (s1.nd p).kids.length := ⟨_, rfl⟩
    have hkk : kk ≤ (s1.nd p).kids.length := by
      rw [hkk0]
      unfold atN
      split
      · omega
      · split <;> omega
    have KK := Lib.hid hkk0
    clear hkk0
    have IN2 := IN.out
    rw [← KK.out] at IN2
    have AE := Lib.hid (attach_eq s1 (k := kk) hne)
    obtain ⟨L, LE⟩ : ∃ L, insL (s1.nd p).kids kk x = L := ⟨_, rfl⟩
    rw [LE] at AE
    replace LE := Lib.hid LE
    replace IN := Lib.hid IN2
    clear IN2
    have KE : Hid ((kk : Int) = max 0 (min at_ ((s1.nd p).kids.length : Int))) := by rw [KK.out]; exact (atN_eq _ _).symm
    clear KK
    generalize hks : (s1.nd p).kids = ks at *
    replace hks := Lib.hid hks
    generalize hkn : ks.length = kn at *
    have hkl8 : ks.length ≤ 1000000 := by omega
    replace hkn := Lib.hid hkn
    go_upto_region 6 with fail
    go_cut [10] (fun s3 wz => s3 = .int .i64 kk ∧ wz = wc)
    case first =>
      go_wp2_with fail
      go_meet
      refine ⟨?_, rfl⟩
      rw [KE.out]
    case rest =>
      obtain ⟨rfl, hwc⟩ := hcut
      subst hwc
      generalize wc = w4 at *
      have hkc : kn ≤ k2 := by have := In.ni_cap NK.out; rw [hkn.out] at this; exact this
      have hkk2 : (kk : Int) ≤ (k2 : Int) := by omega
      have hkk3 : (kk : Int) ≤ (kn : Int) := by omega
      have hkl2 : kk ≤ ks.length := by rw [hkn.out]; exact hkk
      have NT : Hid (∀ W, Below w4.heap.size w4 W → Ni W (.slice K2 kk k2) (ks.take kk)) := fun W hW => (NK.out.call hW).take kk hkl2
      have ND : Hid (∀ W, Below w4.heap.size w4 W → Ni W (.slice (if k2 = kk then K2 else Option.map (fun x => x.add kk) K2) (kn - kk) (k2 - kk)) (ks.drop kk)) := fun W hW => In.ni_from (NK.out.call hW) kk hkl2
      have SH : Hid (∀ W, Below w4.heap.size w4 W → W.cell? ⟨D, 0, none⟩ = some (.slice (some ⟨N, 0, none⟩) (s1.top + 1) c) ∧ W.cell? ⟨N, p * 7 + 6, none⟩ = some (kv p) ∧ W.frozen? ⟨N, p * 7 + 6, none⟩ = false) := fun W hW => ⟨(R1.out.call hW).c0, ((R1.out.call hW).nc hp1).2.2.2.2.2.2, (R1.out.call hW).nf _⟩
      go_upto_region 7 with fail
      clear n6
      go_cut [] (fun wz => ∃ v : Value, Hid (∃ ro', Rel mR ro' wz D N c fv (up av p (av p)) (up kv p v) (s1.put p { s1.nd p with kids := L }) ∧ (∀ k, ro1 k ≠ 0 → ro' k = ro1 k) ∧ (∀ k, ro' k ≠ 0 → ro1 k ≠ 0 ∨ w4.heap.size ≤ k) ∧ Kp (fun k => ro1 k ≠ 0 ∧ True) w4 wz))
      case first =>
        refine wp_region_pre 19 (0 :: 1 :: 2 :: 3 :: 4 :: 6 :: 7 :: 8 :: 10 :: 13 :: 14 :: 15 :: []) 8 (fun W => Below w4.heap.size w4 W) (by kernel_rfl) (by kernel_rfl) (by decide) (by kernel_rfl) (fun d _ _ _ _ h => by cases d <;> exact h) ((Below.refl _ w4).drew) ?_
        refine pre_q (d := some 67) (v := ?_) rfl rfl (Or.inl ⟨by rfl, ?_⟩) ?_
        rotate_left
        · intro wz hSw
          obtain ⟨c0, n6, g6⟩ := SH.out wz hSw
          go_simp
          (try with_reducible rfl)
        try simp only [Act.put, List.setIfInBounds_toArray, List.set_cons_zero, List.set_cons_succ]
        refine pre_q (d := some 68) (v := ?_) rfl rfl (Or.inl ⟨by rfl, ?_⟩) ?_
        rotate_left
        · intro wz hSw
          obtain ⟨c0, n6, g6⟩ := SH.out wz hSw
          go_simp
          (try with_reducible rfl)
        try simp only [Act.put, List.setIfInBounds_toArray, List.set_cons_zero, List.set_cons_succ]
        refine pre_q (d := some 69) (v := ?_) rfl rfl (Or.inl ⟨by rfl, ?_⟩) ?_
        rotate_left
        · intro wz hSw
          obtain ⟨c0, n6, g6⟩ := SH.out wz hSw
          go_simp
          (try with_reducible rfl)
        try simp only [Act.put, List.setIfInBounds_toArray, List.set_cons_zero, List.set_cons_succ]
        refine pre_q (d := some 70) (v := ?_) rfl rfl (Or.inl ⟨by rfl, ?_⟩) ?_
        rotate_left
        · intro wz hSw
          obtain ⟨c0, n6, g6⟩ := SH.out wz hSw
          go_simp
          (try with_reducible rfl)
        try simp only [Act.put, List.setIfInBounds_toArray, List.set_cons_zero, List.set_cons_succ]
        refine pre_q (d := some 71) (v := ?_) rfl rfl (Or.inl ⟨by rfl, ?_⟩) ?_
        rotate_left
        · intro wz hSw
          obtain ⟨c0, n6, g6⟩ := SH.out wz hSw
          go_simp
          (try with_reducible rfl)
        try simp only [Act.put, List.setIfInBounds_toArray, List.set_cons_zero, List.set_cons_succ]
        refine pre_q (d := some 73) (v := ?_) rfl rfl (Or.inl ⟨by rfl, ?_⟩) ?_
        rotate_left
        · intro wz hSw
          obtain ⟨c0, n6, g6⟩ := SH.out wz hSw
          go_simp
          (try with_reducible rfl)
        try simp only [Act.put, List.setIfInBounds_toArray, List.set_cons_zero, List.set_cons_succ]
        refine pre_q (d := some 74) (v := ?_) rfl rfl (Or.inl ⟨by rfl, ?_⟩) ?_
        rotate_left
        · intro wz hSw
          obtain ⟨c0, n6, g6⟩ := SH.out wz hSw
          go_simp
          (try with_reducible rfl)
        try simp only [Act.put, List.setIfInBounds_toArray, List.set_cons_zero, List.set_cons_succ]
        refine pre_q (d := some 75) (v := ?_) rfl rfl (Or.inl ⟨by rfl, ?_⟩) ?_
        rotate_left
        · intro wz hSw
          obtain ⟨c0, n6, g6⟩ := SH.out wz hSw
          go_simp
          (try with_reducible rfl)
        try simp only [Act.put, List.setIfInBounds_toArray, List.set_cons_zero, List.set_cons_succ]
        refine pre_q (d := some 77) (v := ?_) rfl rfl (Or.inl ⟨by rfl, ?_⟩) ?_
        rotate_left
        · intro wz hSw
          obtain ⟨c0, n6, g6⟩ := SH.out wz hSw
          go_simp
          (try with_reducible rfl)
        try simp only [Act.put, List.setIfInBounds_toArray, List.set_cons_zero, List.set_cons_succ]
        refine pre_q (d := some 80) (v := ?_) rfl rfl (Or.inl ⟨by rfl, ?_⟩) ?_
        rotate_left
        · intro wz hSw
          obtain ⟨c0, n6, g6⟩ := SH.out wz hSw
          go_simp
          (try with_reducible rfl)
        try simp only [Act.put, List.setIfInBounds_toArray, List.set_cons_zero, List.set_cons_succ]
        refine pre_q (d := some 81) (v := ?_) rfl rfl (Or.inl ⟨by rfl, ?_⟩) ?_
        rotate_left
        · intro wz hSw
          obtain ⟨c0, n6, g6⟩ := SH.out wz hSw
          go_simp
          (try with_reducible rfl)
        try simp only [Act.put, List.setIfInBounds_toArray, List.set_cons_zero, List.set_cons_succ]
        refine pre_q (d := some 82) (v := ?_) rfl rfl (Or.inl ⟨by rfl, ?_⟩) ?_
        rotate_left
        · intro wz hSw
          obtain ⟨c0, n6, g6⟩ := SH.out wz hSw
          go_simp
          (try with_reducible rfl)
        try simp only [Act.put, List.setIfInBounds_toArray, List.set_cons_zero, List.set_cons_succ]
        refine pre_nil ?_
        refine sinkw_vee (i := 5) (j := 11) (by kernel_rfl) ?_ ?_
        focus
          refine wpOp_step rfl (fun K' hK => ?_)
          have HK := Lib.hid hK
          clear hK
          rw [if_pos (by rfl)]
          go_simp
          have C0 : Hid (Cs w4 ((w4.alloc (.cells #[] 3 (0, 0))).drew) (.slice (some ⟨w4.heap.size, 0, none⟩) 0 0) []) := cs_nil ((Below.refl _ w4).drew)
          generalize (w4.alloc _).drew = x0 at *
          refine HK.out _ _ ⟨Or.inr C0.out.bw, ?_⟩
          clear HK
          try change SinkW _ _ _ _ _ _ _ _ (Act.put _ (some 72) _) _
          try simp only [Act.put, List.setIfInBounds_toArray, List.set_cons_zero, List.set_cons_succ]
          refine sinkw_vee (i := 9) (j := 11) (by kernel_rfl) ?_ ?_
          focus
            refine wpOp_step rfl (fun K' hK => ?_)
            have HK := Lib.hid hK
            clear hK
            rw [if_pos (by rfl)]
            refine wp_cs C0.out (.tmp 72) (.tmp 75) rfl rfl _ (ks.take kk) rfl (NT.out _ C0.out.bw) (by simp; try omega) (by simp; try omega) (fun v9 x9 h9 n9 => ?_)
            have C9 := Lib.hid h9
            clear h9 n9
            refine HK.out _ _ ⟨Or.inr C9.out.bw, ?_⟩
            clear HK
            try change SinkW _ _ _ _ _ _ _ _ (Act.put _ (some 76) _) _
            try simp only [Act.put, List.setIfInBounds_toArray, List.set_cons_zero, List.set_cons_succ]
            refine sinkw_one (i := 11) (by kernel_rfl) ?_
            refine wpOp_step rfl (fun K' hK => ?_)
            have HK := Lib.hid hK
            clear hK
            rw [if_pos (by rfl)]
            go_simp
            have C6 := Lib.hid (C9.out.alloc (.cells #[.int .i64 (x : Int)] 3 (0, 0)))
            have N6 := Lib.hid (C9.out.on x)
            generalize x9.alloc _ = x6 at *
            refine HK.out _ _ ⟨Or.inr C6.out.bw, ?_⟩
            clear HK
            try change SinkW _ _ _ _ _ _ _ _ (Act.put _ (some 78) _) _
            try simp only [Act.put, List.setIfInBounds_toArray, List.set_cons_zero, List.set_cons_succ]
            refine sinkw_one (i := 12) (by kernel_rfl) ?_
            refine wpOp_step rfl (fun K' hK => ?_)
            have HK := Lib.hid hK
            clear hK
            rw [if_pos (by rfl)]
            refine wp_cs C6.out (.tmp 76) (.tmp 78) rfl rfl _ [x] rfl (N6.out.2.2) (by simp; try omega) (by simp; try omega) (fun v12 x12 h12 n12 => ?_)
            have C12 := Lib.hid h12
            clear h12 n12
            refine HK.out _ _ ⟨Or.inr C12.out.bw, ?_⟩
            clear HK
            try change SinkW _ _ _ _ _ _ _ _ (Act.put _ (some 79) _) _
            try simp only [Act.put, List.setIfInBounds_toArray, List.set_cons_zero, List.set_cons_succ]
            refine sinkw_one (i := 16) (by kernel_rfl) ?_
            refine wpOp_step rfl (fun K' hK => ?_)
            have HK := Lib.hid hK
            clear hK
            rw [if_pos (by rfl)]
            refine wp_cs C12.out (.tmp 79) (.tmp 82) rfl rfl _ (ks.drop kk) rfl (ND.out _ C12.out.bw) (by simp; try omega) (by simp; try omega) (fun v16 x16 h16 n16 => ?_)
            have C16 := Lib.hid h16
            clear h16 n16
            have CE : Hid (Cs w4 x16 v16 (L)) := by have h := C16.out; rw [insL_cat, LE.out] at h; exact h
            clear C16
            obtain ⟨AE, cE, rfl⟩ := owns_shape CE.out.ow
            refine HK.out _ _ ⟨Or.inr CE.out.bw, ?_⟩
            clear HK
            try change SinkW _ _ _ _ _ _ _ _ (Act.put _ (some 83) _) _
            try simp only [Act.put, List.setIfInBounds_toArray, List.set_cons_zero, List.set_cons_succ]
            refine sinkw_take (i := 17) (d := some 84) (v := ?_) rfl rfl (by kernel_rfl) (by kernel_rfl) (fun _ _ _ h => h) (Or.inl ⟨by rfl, ?_⟩) (CE.out.bw) ?_
            rotate_left
            · intro wz hSw
              go_simp
              (try with_reducible rfl)
            try simp only [Act.put, List.setIfInBounds_toArray, List.set_cons_zero, List.set_cons_succ]
            refine sinkw_take (i := 18) (d := some 85) (v := ?_) rfl rfl (by kernel_rfl) (by kernel_rfl) (fun _ _ _ h => h) (Or.inl ⟨by rfl, ?_⟩) (CE.out.bw) ?_
            rotate_left
            · intro wz hSw
              go_simp
              (try with_reducible rfl)
            try simp only [Act.put, List.setIfInBounds_toArray, List.set_cons_zero, List.set_cons_succ]
            refine sinkw_one (i := 19) (by kernel_rfl) ?_
            refine wpOp_step rfl (fun K' hK => ?_)
            have HK := Lib.hid hK
            clear hK
            rw [if_pos (by rfl)]
            obtain ⟨_, n6, g6⟩ := SH.out _ CE.out.bw
            go_simp
            refine HK.out _ _ ⟨Or.inl rfl, ?_⟩
            clear HK
            try simp only [Act.put, List.setIfInBounds_toArray, List.set_cons_zero, List.set_cons_succ]
            refine sinkw_done (by kernel_rfl) ?_
            have TK := Lib.hid (R1.out.setK hp1 L (Kp.of_below CE.out.bw (fun k => ro1 k = 5 + p)) (owns_zero CE.out.ow) (fun g hg => Or.inr (CE.out.ow.lt g hg).1) (fun _ => rfl))
            clear n6 g6 SH NT ND
            generalize @ite (Option Addr) (k2 = kk) _ _ _ = AQ2
            go_wp2_with fail
            go_meet
            exact ⟨_, TK.out⟩
          focus
            refine wpOp_step rfl (fun K' hK => ?_)
            have HK := Lib.hid hK
            clear hK
            rw [if_pos (by rfl)]
            go_simp
            have C6 := Lib.hid (C0.out.alloc (.cells #[.int .i64 (x : Int)] 3 (0, 0)))
            have N6 := Lib.hid (C0.out.on x)
            generalize x0.alloc _ = x6 at *
            refine HK.out _ _ ⟨Or.inr C6.out.bw, ?_⟩
            clear HK
            try change SinkW _ _ _ _ _ _ _ _ (Act.put _ (some 78) _) _
            try simp only [Act.put, List.setIfInBounds_toArray, List.set_cons_zero, List.set_cons_succ]
            refine sinkw_one (i := 9) (by kernel_rfl) ?_
            refine wpOp_step rfl (fun K' hK => ?_)
            have HK := Lib.hid hK
            clear hK
            rw [if_pos (by rfl)]
            refine wp_cs C6.out (.tmp 72) (.tmp 75) rfl rfl _ (ks.take kk) rfl (NT.out _ C6.out.bw) (by simp; try omega) (by simp; try omega) (fun v9 x9 h9 n9 => ?_)
            have C9 := Lib.hid h9
            have N9 := Lib.hid (n9 _ _ N6.out)
            clear h9 n9
            refine HK.out _ _ ⟨Or.inr C9.out.bw, ?_⟩
            clear HK
            try change SinkW _ _ _ _ _ _ _ _ (Act.put _ (some 76) _) _
            try simp only [Act.put, List.setIfInBounds_toArray, List.set_cons_zero, List.set_cons_succ]
            refine sinkw_one (i := 12) (by kernel_rfl) ?_
            refine wpOp_step rfl (fun K' hK => ?_)
            have HK := Lib.hid hK
            clear hK
            rw [if_pos (by rfl)]
            refine wp_cs C9.out (.tmp 76) (.tmp 78) rfl rfl _ [x] rfl (N9.out.2.2) (by simp; try omega) (by simp; try omega) (fun v12 x12 h12 n12 => ?_)
            have C12 := Lib.hid h12
            clear h12 n12
            refine HK.out _ _ ⟨Or.inr C12.out.bw, ?_⟩
            clear HK
            try change SinkW _ _ _ _ _ _ _ _ (Act.put _ (some 79) _) _
            try simp only [Act.put, List.setIfInBounds_toArray, List.set_cons_zero, List.set_cons_succ]
            refine sinkw_one (i := 16) (by kernel_rfl) ?_
            refine wpOp_step rfl (fun K' hK => ?_)
            have HK := Lib.hid hK
            clear hK
            rw [if_pos (by rfl)]
            refine wp_cs C12.out (.tmp 79) (.tmp 82) rfl rfl _ (ks.drop kk) rfl (ND.out _ C12.out.bw) (by simp; try omega) (by simp; try omega) (fun v16 x16 h16 n16 => ?_)
            have C16 := Lib.hid h16
            clear h16 n16
            have CE : Hid (Cs w4 x16 v16 (L)) := by have h := C16.out; rw [insL_cat, LE.out] at h; exact h
            clear C16
            obtain ⟨AE, cE, rfl⟩ := owns_shape CE.out.ow
            refine HK.out _ _ ⟨Or.inr CE.out.bw, ?_⟩
            clear HK
            try change SinkW _ _ _ _ _ _ _ _ (Act.put _ (some 83) _) _
            try simp only [Act.put, List.setIfInBounds_toArray, List.set_cons_zero, List.set_cons_succ]
            refine sinkw_take (i := 17) (d := some 84) (v := ?_) rfl rfl (by kernel_rfl) (by kernel_rfl) (fun _ _ _ h => h) (Or.inl ⟨by rfl, ?_⟩) (CE.out.bw) ?_
            rotate_left
            · intro wz hSw
              go_simp
              (try with_reducible rfl)
            try simp only [Act.put, List.setIfInBounds_toArray, List.set_cons_zero, List.set_cons_succ]
            refine sinkw_take (i := 18) (d := some 85) (v := ?_) rfl rfl (by kernel_rfl) (by kernel_rfl) (fun _ _ _ h => h) (Or.inl ⟨by rfl, ?_⟩) (CE.out.bw) ?_
            rotate_left
            · intro wz hSw
              go_simp
              (try with_reducible rfl)
            try simp only [Act.put, List.setIfInBounds_toArray, List.set_cons_zero, List.set_cons_succ]
            refine sinkw_one (i := 19) (by kernel_rfl) ?_
            refine wpOp_step rfl (fun K' hK => ?_)
            have HK := Lib.hid hK
            clear hK
            rw [if_pos (by rfl)]
            obtain ⟨_, n6, g6⟩ := SH.out _ CE.out.bw
            go_simp
            refine HK.out _ _ ⟨Or.inl rfl, ?_⟩
            clear HK
            try simp only [Act.put, List.setIfInBounds_toArray, List.set_cons_zero, List.set_cons_succ]
            refine sinkw_done (by kernel_rfl) ?_
            have TK := Lib.hid (R1.out.setK hp1 L (Kp.of_below CE.out.bw (fun k => ro1 k = 5 + p)) (owns_zero CE.out.ow) (fun g hg => Or.inr (CE.out.ow.lt g hg).1) (fun _ => rfl))
            clear n6 g6 SH NT ND
            generalize @ite (Option Addr) (k2 = kk) _ _ _ = AQ2
            go_wp2_with fail
            go_meet
            exact ⟨_, TK.out⟩
        focus
          refine wpOp_step rfl (fun K' hK => ?_)
          have HK := Lib.hid hK
          clear hK
          rw [if_pos (by rfl)]
          go_simp
          have B6 : Hid (Below w4.heap.size w4 ((w4.alloc (.cells #[.int .i64 (x : Int)] 3 (0, 0))).drew)) := ((Below.refl _ w4).alloc (Nat.le_refl _) _).drew
          have N6 : Hid (Ni ((w4.alloc (.cells #[.int .i64 (x : Int)] 3 (0, 0))).drew) (.slice (some ⟨w4.heap.size, 0, none⟩) 1 1) [x]) := ni_one (blk_new w4 _)
          have NB : Hid (w4.heap.size < ((w4.alloc (.cells #[.int .i64 (x : Int)] 3 (0, 0))).drew).heap.size) := by show _ < (World.alloc _ _).heap.size; simp
          generalize (w4.alloc _).drew = x6 at *
          refine HK.out _ _ ⟨Or.inr B6.out, ?_⟩
          clear HK
          try change SinkW _ _ _ _ _ _ _ _ (Act.put _ (some 78) _) _
          try simp only [Act.put, List.setIfInBounds_toArray, List.set_cons_zero, List.set_cons_succ]
          refine sinkw_one (i := 5) (by kernel_rfl) ?_
          refine wpOp_step rfl (fun K' hK => ?_)
          have HK := Lib.hid hK
          clear hK
          rw [if_pos (by rfl)]
          go_simp
          have C0 : Hid (Cs w4 (x6.alloc (.cells #[] 3 (0, 0))) (.slice (some ⟨x6.heap.size, 0, none⟩) 0 0) []) := cs_nil B6.out
          have N0 := Lib.hid (on_nil NB.out N6.out (.cells #[] 3 (0, 0)))
          generalize x6.alloc _ = x0 at *
          refine HK.out _ _ ⟨Or.inr C0.out.bw, ?_⟩
          clear HK
          try change SinkW _ _ _ _ _ _ _ _ (Act.put _ (some 72) _) _
          try simp only [Act.put, List.setIfInBounds_toArray, List.set_cons_zero, List.set_cons_succ]
          refine sinkw_one (i := 9) (by kernel_rfl) ?_
          refine wpOp_step rfl (fun K' hK => ?_)
          have HK := Lib.hid hK
          clear hK
          rw [if_pos (by rfl)]
          refine wp_cs C0.out (.tmp 72) (.tmp 75) rfl rfl _ (ks.take kk) rfl (NT.out _ C0.out.bw) (by simp; try omega) (by simp; try omega) (fun v9 x9 h9 n9 => ?_)
          have C9 := Lib.hid h9
          have N9 := Lib.hid (n9 _ _ N0.out)
          clear h9 n9
          refine HK.out _ _ ⟨Or.inr C9.out.bw, ?_⟩
          clear HK
          try change SinkW _ _ _ _ _ _ _ _ (Act.put _ (some 76) _) _
          try simp only [Act.put, List.setIfInBounds_toArray, List.set_cons_zero, List.set_cons_succ]
          refine sinkw_one (i := 12) (by kernel_rfl) ?_
          refine wpOp_step rfl (fun K' hK => ?_)
          have HK := Lib.hid hK
          clear hK
          rw [if_pos (by rfl)]
          refine wp_cs C9.out (.tmp 76) (.tmp 78) rfl rfl _ [x] rfl (N9.out.2.2) (by simp; try omega) (by simp; try omega) (fun v12 x12 h12 n12 => ?_)
          have C12 := Lib.hid h12
          clear h12 n12
          refine HK.out _ _ ⟨Or.inr C12.out.bw, ?_⟩
          clear HK
          try change SinkW _ _ _ _ _ _ _ _ (Act.put _ (some 79) _) _
          try simp only [Act.put, List.setIfInBounds_toArray, List.set_cons_zero, List.set_cons_succ]
          refine sinkw_one (i := 16) (by kernel_rfl) ?_
          refine wpOp_step rfl (fun K' hK => ?_)
          have HK := Lib.hid hK
          clear hK
          rw [if_pos (by rfl)]
          refine wp_cs C12.out (.tmp 79) (.tmp 82) rfl rfl _ (ks.drop kk) rfl (ND.out _ C12.out.bw) (by simp; try omega) (by simp; try omega) (fun v16 x16 h16 n16 => ?_)
          have C16 := Lib.hid h16
          clear h16 n16
          have CE : Hid (Cs w4 x16 v16 (L)) := by have h := C16.out; rw [insL_cat, LE.out] at h; exact h
          clear C16
          obtain ⟨AE, cE, rfl⟩ := owns_shape CE.out.ow
          refine HK.out _ _ ⟨Or.inr CE.out.bw, ?_⟩
          clear HK
          try change SinkW _ _ _ _ _ _ _ _ (Act.put _ (some 83) _) _
          try simp only [Act.put, List.setIfInBounds_toArray, List.set_cons_zero, List.set_cons_succ]
          refine sinkw_take (i := 17) (d := some 84) (v := ?_) rfl rfl (by kernel_rfl) (by kernel_rfl) (fun _ _ _ h => h) (Or.inl ⟨by rfl, ?_⟩) (CE.out.bw) ?_
          rotate_left
          · intro wz hSw
            go_simp
            (try with_reducible rfl)
          try simp only [Act.put, List.setIfInBounds_toArray, List.set_cons_zero, List.set_cons_succ]
          refine sinkw_take (i := 18) (d := some 85) (v := ?_) rfl rfl (by kernel_rfl) (by kernel_rfl) (fun _ _ _ h => h) (Or.inl ⟨by rfl, ?_⟩) (CE.out.bw) ?_
          rotate_left
          · intro wz hSw
            go_simp
            (try with_reducible rfl)
          try simp only [Act.put, List.setIfInBounds_toArray, List.set_cons_zero, List.set_cons_succ]
          refine sinkw_one (i := 19) (by kernel_rfl) ?_
          refine wpOp_step rfl (fun K' hK => ?_)
          have HK := Lib.hid hK
          clear hK
          rw [if_pos (by rfl)]
          obtain ⟨_, n6, g6⟩ := SH.out _ CE.out.bw
          go_simp
          refine HK.out _ _ ⟨Or.inl rfl, ?_⟩
          clear HK
          try simp only [Act.put, List.setIfInBounds_toArray, List.set_cons_zero, List.set_cons_succ]
          refine sinkw_done (by kernel_rfl) ?_
          have TK := Lib.hid (R1.out.setK hp1 L (Kp.of_below CE.out.bw (fun k => ro1 k = 5 + p)) (owns_zero CE.out.ow) (fun g hg => Or.inr (CE.out.ow.lt g hg).1) (fun _ => rfl))
          clear n6 g6 SH NT ND
          generalize @ite (Option Addr) (k2 = kk) _ _ _ = AQ2
          go_wp2_with fail
          go_meet
          exact ⟨_, TK.out⟩

      case rest =>
        clear c0 SH NT ND hkl2 hkk2 hkk3 hkc
        obtain ⟨v9, TK⟩ := hcut
        obtain ⟨ro3, R3, o3, m3, k3⟩ := TK.out
        replace R3 := Lib.hid R3
        replace o3 := Lib.hid o3
        replace m3 := Lib.hid m3
        replace k3 := Lib.hid k3
        clear TK
        have c0 := R3.out.c0
        rw [show (s1.put p { s1.nd p with kids := L }).top = s1.top from rfl] at c0
        obtain ⟨x5, n5⟩ : ∃ x5 : Value, wc.cell? ⟨N, x * 7 + 5, none⟩ = some x5 := ⟨_, (R3.out.nc (i := x) hx1).2.2.2.2.2.1⟩
        have g5 := R3.out.nf (x * 7 + 5)
        have R4a := R3.out.setP (i := x) hx1 p (fun _ => rfl)
        rw [AE.out, ← IN.out] at R4a
        have R4 : Hid (Rel mR ro3 (wc.setCell ⟨N, x * 7 + 5, none⟩ (.int .i64 p)) D N c fv _ _ (s.insert p x at_)) := R4a
        clear R4a AE IN
        go_upto_region 8 with fail
        go_wp2_with fail
        go_ret
        have hrN : ro1 N ≠ 0 := by rw [R1.out.rN]; decide
        have K5 : Kp (fun k => ro1 k ≠ 0 ∧ True) w4 (wc.setCell ⟨N, x * 7 + 5, none⟩ (.int .i64 p)) := k3.out.setCell (p := ⟨N, x * 7 + 5, none⟩) (fun _ => ⟨hrN, trivial⟩) _
        exact ⟨rfl, Turn.trans O4.out M4.out K4.out ⟨ro3, ⟨N, c, fv, _, _, R4.out⟩, o3.out, m3.out, K5⟩⟩
end
end Go.Proofs.Ytdbnhpghemlkbaa
