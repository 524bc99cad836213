/-
  The reference: free, Free.
-/
import Derived.Test.YtdbnhpghemlkbaaRsa
import Derived.Test.YtdbnhpghemlkbaaFre
namespace Go.Proofs.Ytdbnhpghemlkbaa
open Go.RowKit Go.PlainAid Dm
set_option maxRecDepth 100000

section
variable {D : Nat}
set_option maxHeartbeats 6400000 in
theorem free46 (n : Nat) : ∀ (s : St) (ro : Ros) (w : World) (i : Nat) (L : List Nat), Dom mR ro w D s → Pres s.nd [i] L → L.Nodup → (∀ j ∈ L, j ≤ s.top) → L.length ≤ n → s.freed.length + L.length ≤ 1000000 →
    Calls Try.prog 46 #[.pointer (some ⟨D, 0, none⟩), .int .i64 i] w (FreP mR ro D (s.drop L) w) := by
  induction n with
  | zero =>
    intro s ro w i L _ hp _ _ hl
    cases hp with
    | cons a b => simp at hl
  | succ n ih =>
    intro s ro w i L h hp hN hT hl hf
    obtain ⟨L1, rfl, hp1⟩ : ∃ L1, L = i :: L1 ∧ Pres s.nd (s.nd i).kids L1 := by
      cases hp with
      | cons a b => cases b; exact ⟨_, by simp, a⟩
    have hN' := List.nodup_cons.1 hN
    have hi : i ≤ s.top := hT i (by simp)
    rw [List.length_cons] at hl hf
    obtain ⟨N, c, fv, av, kv, h⟩ := h
    have R0 := Lib.hid h
    have IH := Lib.hid ih
    have HP := Lib.hid hp1
    have HN := Lib.hid hN'
    have HT := Lib.hid hT
    clear ih hp hp1 hN hN' hT
    have hi2 : (i : Int) < (s.top : Int) + 1 := by omega
    have c0 := R0.out.c0
    obtain ⟨n0, n1, n2, n3, n4, n5, n6⟩ := R0.out.nc hi
    have g0 := R0.out.nf (i * 7)
    have g1 := R0.out.nf (i * 7 + 1)
    have g2 := R0.out.nf (i * 7 + 2)
    have g3 := R0.out.nf (i * 7 + 3)
    have g4 := R0.out.nf (i * 7 + 4)
    have g5 := R0.out.nf (i * 7 + 5)
    have g6 := R0.out.nf (i * 7 + 6)
    obtain ⟨K, k, e2, hk1, hk2⟩ := (R0.out.ki i hi).shape
    have hkl : (s.nd i).kids.length ≤ 9223372036854775807 := by unfold maxLen at hk2; omega
    clear hk1 hk2
    have KC := Lib.hid ((R0.out.ki i hi).kids e2)
    rw [e2] at n6
    have R1 := Lib.hid (R0.out.put7 hi nd0 rfl rfl)
    have K1 := Lib.hid (kp7 (Kp.refl (fun k => ro k ≠ 0 ∧ F3 (ro k)) w) (N := N) (fun _ => ⟨by rw [R0.out.rN]; decide, Or.inr (Or.inl R0.out.rN)⟩) (i * 7) (.bool false) (.string ⟨#[]⟩) (.string ⟨#[]⟩) (.string ⟨#[]⟩) (.slice none 0 0) (.int .i64 0) (.slice none 0 0))
    clear h e2
    go_enter Try.func46, Try.ntmps46
    go_upto_region 2 with fail
    change Hid (Rel mR ro (((((((w.setCell ⟨N, i * 7, none⟩ (.bool false)).setCell ⟨N, i * 7 + 1, none⟩ (.string ⟨#[]⟩)).setCell ⟨N, i * 7 + 2, none⟩ (.string ⟨#[]⟩)).setCell ⟨N, i * 7 + 3, none⟩ (.string ⟨#[]⟩)).setCell ⟨N, i * 7 + 4, none⟩ (.slice none 0 0)).setCell ⟨N, i * 7 + 5, none⟩ (.int .i64 0)).setCell ⟨N, i * 7 + 6, none⟩ (.slice none 0 0)) D N c fv _ _ _) at R1
    generalize ((((((w.setCell ⟨N, i * 7, none⟩ (.bool false)).setCell ⟨N, i * 7 + 1, none⟩ (.string ⟨#[]⟩)).setCell ⟨N, i * 7 + 2, none⟩ (.string ⟨#[]⟩)).setCell ⟨N, i * 7 + 3, none⟩ (.string ⟨#[]⟩)).setCell ⟨N, i * 7 + 4, none⟩ (.slice none 0 0)).setCell ⟨N, i * 7 + 5, none⟩ (.int .i64 0)).setCell ⟨N, i * 7 + 6, none⟩ (.slice none 0 0) = w1 at *
    clear c0 n0 n1 n2 n3 n4 n5 n6 g0 g1 g2 g3 g4 g5 g6
    have c1 := R1.out.c1
    have f1 := R1.out.f0 1
    obtain ⟨F, f, e3, _, _⟩ := R1.out.fr.shape
    rw [show (s.put i nd0).freed = s.freed from rfl, List.length_reverse] at e3
    subst e3
    have R2 := Lib.hid (R1.out.alloc (.cells #[.int .i64 (i : Int)] 3 (0, 0)))
    have B2 := Lib.hid ((Below.refl _ w1).alloc (Nat.le_refl _) (.cells #[.int .i64 (i : Int)] 3 (0, 0)))
    have NB := Lib.hid (blk_new w1 (.cells #[.int .i64 (i : Int)] 3 (0, 0)))
    have FR := R2.out.fr.1
    rw [show (s.put i nd0).freed = s.freed from rfl, List.length_reverse] at FR
    replace FR := Lib.hid FR
    have c2 := R2.out.c1
    have f2 := R2.out.f0 1
    go_wp2_with (refine wpList_app elI _ rfl _ _ rfl 0 (.slice F s.freed.length f) s.freed.length (niC s.freed.reverse) rfl FR.out (Nat.zero_le _) ⟨w1.heap.size, 0, none⟩ 1 1 [.int .i64 (i : Int)] rfl rfl (World.news_of_block NB.out) (by intro u hu; simp at hu; subst hu; rfl) (by omega) (by omega) ?_; intro v3 w3 h3 hg3 hv3; have TU := Lib.hid (R2.out.freedPush i h3 hg3 hv3); obtain ⟨A3, a3, rfl⟩ := owns_shape h3; have k3 := hg3.block D (R2.out.dlt) (fun e => by have := R2.out.fr.2 D e.symm; rw [R2.out.rD] at this; cases this); have c3 := (World.cell?_of_block (a := ⟨D, 1, none⟩) k3).trans c2; have f3 := (World.frozen?_of_block (a := ⟨D, 1, none⟩) k3).trans f2; clear h3 hg3 hv3 k3 c2 f2 c1 f1)
    generalize w3.setCell _ _ = w4 at *
    have T0 := TU.out
    rw [show ({ s.put i nd0 with freed := i :: (s.put i nd0).freed } : St) = s.drop [i] from drop_one i] at T0
    have KA := K1.out.alloc (.cells #[.int .i64 (i : Int)] 3 (0, 0))
    have T1 := Lib.hid (Turn.trans (fun _ _ => rfl) (fun _ e => Or.inl e) KA T0)
    clear TU T0 KA R2 B2 NB FR c3 f3 R1 K1
    go_loopw [34] (fun p34 wr => ∃ (j : Nat) (La Lb : List Nat), j ≤ (s.nd i).kids.length ∧ p34 = .int .i64 j ∧ Hid (L1 = La ++ Lb ∧ Pres s.nd ((s.nd i).kids.take j) La ∧ Pres s.nd ((s.nd i).kids.drop j) Lb) ∧ Hid (Turn mR ro D (s.drop (i :: La)) F3 w wr)) (fun p _ => (s.nd i).kids.length - (intOf p).toNat)
    case atStart => exact ⟨0, [], L1, Nat.zero_le _, rfl, ⟨rfl, .nil, HP.out⟩, T1.out⟩
    case round =>
      obtain ⟨j, La, Lb, hj, rfl, HL, TT⟩ := hrel
      clear T1
      by_cases hlt : j < (s.nd i).kids.length
      · have d0 : (j : Int) < ((s.nd i).kids.length : Int) := by omega
        have d1 : (j : Int) < 9223372036854775807 := by omega
        obtain ⟨g, rfl, hg, hcg⟩ := KC.out j hlt
        obtain ⟨kid, hkid⟩ : ∃ kid, kid = (s.nd i).kids.getD j 0 := ⟨_, rfl⟩
        rw [← hkid] at hcg
        have hcw : wr.cell? ⟨g, j, none⟩ = some (.int .i64 (kid : Nat)) := by
          obtain ⟨_, _, _, _, hk⟩ := TT.out
          rw [hk.cell (World.block_lt_of_cell? w _ hcg) (fun e => by rcases e.2 with x | x | x <;> simp only at x <;> omega)]
          exact hcg
        have hdrop : (s.nd i).kids.drop j = kid :: (s.nd i).kids.drop (j + 1) := by
          rw [List.drop_eq_getElem_cons hlt, hkid]
          simp [List.getD, hlt]
        have htake : (s.nd i).kids.take (j + 1) = (s.nd i).kids.take j ++ [kid] := by
          rw [List.take_add_one, hkid]
          simp [List.getD, hlt]
        obtain ⟨e1, e2, e3⟩ := HL.out
        rw [hdrop] at e3
        obtain ⟨M1, M2, e4, e5, rfl⟩ : ∃ M1 M2, Pres s.nd (s.nd kid).kids M1 ∧ Pres s.nd ((s.nd i).kids.drop (j + 1)) M2 ∧ Lb = kid :: (M1 ++ M2) := by
          cases e3 with
          | cons a b => exact ⟨_, _, a, b, rfl⟩
        have e6 : Pres s.nd [kid] (kid :: M1) := by
          have := Pres.cons e4 (Pres.nil (nd := s.nd))
          rwa [List.append_nil] at this
        have e7 : L1 = La ++ ((kid :: M1) ++ M2) := by rw [e1]; rfl
        have hnn := HN.out
        rw [e7] at hnn
        obtain ⟨q1, q2⟩ := hnn
        obtain ⟨_, q3, q4⟩ := List.nodup_append.1 q2
        obtain ⟨q5, _, _⟩ := List.nodup_append.1 q3
        have hout : ∀ y ∈ kid :: M1, y ∉ i :: La := by
          intro y hy hm
          rcases List.mem_cons.1 hm with e | e
          · subst e; exact q1 (List.mem_append_right _ (List.mem_append_left _ hy))
          · exact q4 y e y (List.mem_append_left _ hy) rfl
        have hlen : L1.length = La.length + ((kid :: M1).length + M2.length) := by rw [e7, List.length_append, List.length_append]
        obtain ⟨roT, hDT, aT, bT, kT⟩ := TT.out
        have HC := Lib.hid (IH.out (s.drop (i :: La)) roT wr kid (kid :: M1) hDT (e6.congr (fun y hy => by rw [drop_nd (hout y hy)])) q5 (fun y hy => HT.out y (by rw [e7]; exact List.mem_cons_of_mem _ (List.mem_append_right _ (List.mem_append_left _ hy)))) (by omega) (by
          show ((i :: La).reverse ++ s.freed).length + _ ≤ _
          rw [List.length_append, List.length_reverse, List.length_cons]
          omega))
        have AT := Lib.hid aT
        have BT := Lib.hid bT
        have KT := Lib.hid kT
        have NX : Hid (L1 = (La ++ (kid :: M1)) ++ M2 ∧ Pres s.nd ((s.nd i).kids.take (j + 1)) (La ++ (kid :: M1)) ∧ Pres s.nd ((s.nd i).kids.drop (j + 1)) M2) := ⟨by rw [e7, List.append_assoc], by rw [htake]; exact pres_append e2 e6, e5⟩
        clear e1 e2 e3 e4 e5 e6 e7 q1 q2 q3 q4 q5 hout hlen hdrop htake hkid hDT aT bT kT TT HL hcg
        go_wp2_with fail
        refine HC.out.mono ?_
        rintro e w5 ⟨rfl, TX⟩
        have T2 := Turn.trans AT.out BT.out KT.out TX
        rw [drop_drop, List.cons_append] at T2
        replace T2 := Lib.hid T2
        clear TX
        go_wp2_with fail
        go_roundw
        case rel => exact ⟨j + 1, _, _, by omega, by go_num, NX, T2⟩
        case measure => simp [intOf]; omega
      · obtain rfl : j = (s.nd i).kids.length := by omega
        have FI : Hid (Turn mR ro D (s.drop (i :: L1)) F3 w wr) := by
          obtain ⟨e1, e2, e3⟩ := HL.out
          rw [List.drop_length] at e3
          cases e3
          rw [e1, List.append_nil]
          exact TT.out
        go_wp2
        go_end0
        exact ⟨rfl, FI.out⟩
end

section
variable {ro : Ros} {D : Nat} {s : St}
set_option maxHeartbeats 1600000 in
theorem free25_no (i : Int) (w : World) (h : Dom mR ro w D s) (hv : Inv s) (hm : ¬ s.mayFree i) :
    Calls Try.prog 25 #[.pointer (some ⟨D, 0, none⟩), .int .i64 i] w (NoR w) := by
  have G := Lib.hid (lives43 i w h hv)
  cases hl : s.lives i with
  | false =>
    clear h hv hm
    go_enter Try.func25, Try.ntmps25
    go_wp2_with fail
    refine G.out.mono ?_
    rintro e w' ⟨rfl, rfl⟩
    rw [hl]
    go_wp2
    go_ret
    exact ⟨rfl, rfl⟩
  | true =>
    by_cases h1 : i = 1
    · subst h1
      clear h hv hm
      go_enter Try.func25, Try.ntmps25
      go_wp2_with fail
      refine G.out.mono ?_
      rintro e w' ⟨rfl, rfl⟩
      rw [hl]
      go_wp2
      go_ret
      exact ⟨rfl, rfl⟩
    · have q1 : (i == 1) = false := beqF h1
      obtain ⟨k, rfl, hk, _, _⟩ := lives_nat hv hl
      have hp : (0 : Int) < ((s.nd k).par : Int) := by
        by_cases e : (s.nd k).par = 0
        · exact absurd ⟨hl, h1, by rw [Int.toNat_natCast]; exact e⟩ hm
        · omega
      obtain ⟨N, c, fv, av, kv, h⟩ := h
      have c0 := h.c0
      obtain ⟨_, _, _, _, _, n5, _⟩ := h.nc hk
      have hk2 : (k : Int) < (s.top : Int) + 1 := by omega
      clear h hv hm h1
      go_enter Try.func25, Try.ntmps25
      go_wp2_with fail
      refine G.out.mono ?_
      rintro e w' ⟨rfl, rfl⟩
      rw [hl]
      go_wp2
      go_ret
      exact ⟨rfl, rfl⟩
set_option maxHeartbeats 1600000 in
theorem free25_yes (i : Nat) (L : List Nat) (w : World) (h : Dom mR ro w D s) (hv : Inv s) (hm : s.mayFree i) (hp : Pres s.nd [i] L) (ht : s.top ≤ 500000) :
    Calls Try.prog 25 #[.pointer (some ⟨D, 0, none⟩), .int .i64 i] w (Yes mR ro D (s.drop L) w) := by
  have G := Lib.hid (lives43 i w h hv)
  have hl := lives_spec hm.1
  rw [Int.toNat_natCast] at hl
  have hks : ∀ k ∈ [i], k ≠ 0 := fun k hk => by rw [List.mem_singleton] at hk; omega
  have hN : L.Nodup := hp.nodup hv hks ⟨by simp, fun a ha b hb _ => by rw [List.mem_singleton] at ha hb; rw [ha, hb]⟩
  have hlive : ∀ j ∈ L, (s.nd j).live = true := fun j hj => by
    obtain ⟨k, hk, hh⟩ := (hp.mem hv hks j).1 hj
    rw [List.mem_singleton] at hk
    subst hk
    exact hv.holds_down hh hl.2.1
  have hT : ∀ j ∈ L, j ≤ s.top := fun j hj => (hv.live_pos (hlive j hj)).2
  have hLl : L.length ≤ s.top := by
    have h := length_le_of_sub hN (m := s.ids) (fun x hx => mem_ids.2 (hv.live_pos (hlive x hx)))
    have e : s.ids.length = s.top := by simp [St.ids]
    omega
  have hfl := freed_len hv
  have h3 : ((i : Int) == 1) = false := beqF hm.2.1
  have hlv := hm.1
  have hi := (hv.live_pos hl.2.1).2
  have hi2 : (i : Int) < (s.top : Int) + 1 := by omega
  have hpar : (s.nd i).par = 0 := by have := hm.2.2; rwa [Int.toNat_natCast] at this
  have FR := Lib.hid (free46 L.length s ro w i L h hp hN hT (Nat.le_refl _) (by omega))
  obtain ⟨N, c, fv, av, kv, h⟩ := h
  have c0 := h.c0
  obtain ⟨_, _, _, _, _, n5, _⟩ := h.nc hi
  rw [hpar] at n5
  clear h hv hm hp hl hks hN hlive hT hLl hfl hpar
  go_enter Try.func25, Try.ntmps25
  go_wp2_with fail
  refine G.out.mono ?_
  rintro e w' ⟨rfl, rfl⟩
  rw [hlv]
  go_wp2_with fail
  refine FR.out.mono ?_
  rintro e w3 ⟨rfl, ro3, hD, a3, b3, k3⟩
  have T2 : Turn mR ro D (s.drop L) (fun _ => True) w w3 := ⟨ro3, hD, a3, b3, k3.mono (fun _ _ e => ⟨e.1, trivial⟩)⟩
  have T3 := Lib.hid T2
  clear T2 hD a3 b3 k3
  go_wp2
  go_ret
  exact ⟨rfl, T3.out⟩
end
end Go.Proofs.Ytdbnhpghemlkbaa
