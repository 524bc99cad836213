/-
  The walk of PastFrom.
-/
import Derived.Test.YtbkhlmnonjkelaaFr1
import Derived.Test.YtbkhlmnonjkelaaRmi
import Derived.Laws.AppendOwnNone
import Derived.Deep.DeepCutAuto
namespace Go.Proofs.Ytbkhlmnonjkelaa
open Go.RowKit Go.PlainAid
set_option maxRecDepth 100000

theorem Es.takeE {w : World} {A : Option Addr} {n c : Nat} {l : List En} (h : Es w (.slice A n c) l) (k : Nat) (hk : k ≤ n) : Es w (.slice A k c) (l.take k) := by
  obtain ⟨A', c', e, h2, h3, h4⟩ := h
  cases e
  have hlen : (l.take k).length = k := by simp; omega
  refine ⟨A, c, by rw [hlen], by rw [hlen]; omega, h3, fun i hi => ?_⟩
  rw [hlen] at hi
  obtain ⟨b, o, e, c1, c2⟩ := h4 i (by omega)
  have hg : (l.take k).getD i default = l.getD i default := by simp [List.getD, hi]
  rw [hg]
  exact ⟨b, o, e, c1, c2⟩

/-- the entries, the first k cleaned -/
def clK (l : List En) (k : Nat) : Nat → En := fun i => if i < k then clE (l.getD i default) else l.getD i default
theorem clK_at (l : List En) (k : Nat) : clK l k k = l.getD k default := by
  unfold clK
  rw [if_neg (Nat.lt_irrefl k)]
theorem clK_next (l : List En) (k : Nat) : putE (clK l k) k ((l.getD k default).1, clI (l.getD k default).2) = clK l (k + 1) := by
  funext i
  unfold putE clK
  by_cases h : i = k
  · subst h
    rw [if_pos rfl, if_pos (by omega)]
    rfl
  · rw [if_neg h]
    by_cases h2 : i < k
    · rw [if_pos h2, if_pos (by omega)]
    · rw [if_neg h2, if_neg (by omega)]
theorem clK_from (l : List En) (i : Nat) (h : i < l.length) : clK l l.length i = fromK l l.length i := by
  unfold clK fromK
  rw [if_pos h, if_pos h]

set_option maxHeartbeats 64000000 in
theorem from5 (v : Value) (l : List En) (at_ : Int) (w : World) (hv : Es w v l) (hu : ∀ e ∈ l, U64 e.2) :
    Calls Try.prog 5 #[v, .int .i64 at_] w fun e w' => e = .returned (.bool true) ∧ Below w.heap.size w w' := by
  have HV := Lib.hid hv
  obtain ⟨A, c, rfl, hcap, hnil, _⟩ := hv
  have HN := Lib.hid hnil
  clear hnil
  obtain ⟨m, hm14, hml, hmm, hmm2⟩ : ∃ m : Nat, m ≤ 14 ∧ m ≤ l.length ∧ (l.length ≤ 14 → m = l.length) ∧ (14 < l.length → m = 14) := ⟨min l.length 14, by omega, by omega, by omega, by omega⟩
  go_enter Try.func5, Try.ntmps5
  go_upto_region 1 with fail
  have HO := empE w.heap.size w w (Below.refl _ _) (Nat.le_refl _)
  have hT := blk_new w (.cells #[] 28 (0, 0))
  have HV1 := Lib.hid (HV.out.call ((Below.refl _ w).alloc (Nat.le_refl _) (.cells #[] 28 (0, 0))))
  go_cut [5] (fun s5 wz => ∃ (T cp : Nat), s5 = .slice (some ⟨T, 0, none⟩) m cp ∧ Hid (OwnE w.heap.size w (.slice (some ⟨T, 0, none⟩) m cp) (l.take m) wz))
  case first =>
    cases A with
    | none =>
      have hc0 := HN.out rfl
      obtain rfl : l = [] := List.eq_nil_of_length_eq_zero (by omega)
      obtain rfl : m = 0 := hmm (by simp)
      clear hmm hmm2 HN HV HV1 hml hm14 hu hcap
      subst hc0
      go_wp2_with fail
      go_meet
      exact ⟨_, _, rfl, HO⟩
    | some ad =>
      have i0 : (0 : Int) ≤ (l.length : Int) := by omega
      have i1 : (l.length : Int) ≤ (c : Int) := by omega
      by_cases h14 : l.length ≤ 14
      · obtain rfl : m = l.length := hmm h14
        clear hmm hmm2
        have k14 : ¬ (14 : Int) < (l.length : Int) := by omega
        go_wp2_with (refine wpList_appR _ rfl _ _ rfl w.heap.size w (.slice (some ⟨w.heap.size, 0, none⟩) 0 0) [] rfl HO (by simp) ad l.length c (l.take l.length) rfl (HV1.out.takeE l.length (Nat.le_refl _)) (by omega) ?_; intro v3 w3 h3 hg3 hob3; clear hg3)
        have h4 : OwnE w.heap.size w v3 (l.take l.length) w3 := by simpa using h3
        obtain ⟨_, ⟨e3, _⟩ | ⟨g3, cap3, cur3, e3, _⟩⟩ := h4.1
        · subst e3
          rcases hob3 with hob3 | hob3 <;> simp [Value.ownBlock] at hob3
        · have hlen : (l.take l.length).length = l.length := by simp
          rw [hlen] at e3
          subst e3
          go_meet
          exact ⟨_, _, rfl, h4⟩
      · obtain rfl : m = 14 := hmm2 (by omega)
        clear hmm hmm2
        have k14 : (14 : Int) < (l.length : Int) := by omega
        have k15 : (14 : Int) ≤ (c : Int) := by omega
        go_wp2_with (refine wpList_appR _ rfl _ _ rfl w.heap.size w (.slice (some ⟨w.heap.size, 0, none⟩) 0 0) [] rfl HO (by simp) ad 14 c (l.take 14) rfl (HV1.out.takeE 14 (by omega)) (by omega) ?_; intro v3 w3 h3 hg3 hob3; clear hg3)
        have h4 : OwnE w.heap.size w v3 (l.take 14) w3 := by simpa using h3
        obtain ⟨_, ⟨e3, _⟩ | ⟨g3, cap3, cur3, e3, _⟩⟩ := h4.1
        · subst e3
          rcases hob3 with hob3 | hob3 <;> simp [Value.ownBlock] at hob3
        · have hlen : (l.take 14).length = 14 := by simp; omega
          rw [hlen] at e3
          subst e3
          go_meet
          exact ⟨_, _, rfl, h4⟩
  case rest =>
    obtain ⟨T, cp, rfl, hO⟩ := hcut
    have hL : (l.take m).length = m := by simp; omega
    have hU : ∀ e ∈ l.take m, U64 e.2 := fun e he => hu e (List.mem_of_mem_take he)
    clear HV HV1 HO hT HN hu hcap hmm hmm2 hml
    generalize l.take m = L at *
    have OW := Lib.hid hO.out.rk
    have OS := Lib.hid hO.out.es
    have hcp : m ≤ cp := by
      obtain ⟨A', c', e, h2, _⟩ := OS.out
      cases e
      rw [hL] at h2
      exact h2
    have B0 := Lib.hid hO.out.2.1
    have HT : w.heap.size ≤ T := (hO.out.1.lt T rfl).1
    clear hO
    subst hL
    go_wp2_with fail
    refine (roomy21 _ _ _ L _ _ wc OS.out (by omega)).mono ?_
    rintro e w2 ⟨T2, rfl, hT2, hR2, hb2⟩
    have OW2 := Lib.hid (OW.out.call hb2)
    have B2 := Lib.hid (B0.out.trans (hb2.mono B0.out.size))
    have FU2 := Lib.hid hR2
    have lt2 := Nat.lt_of_lt_of_le OW.out.lt hT2
    clear OW OS B0 hb2 hR2
    have k80 : (L.length : Int) ≤ ((L.length + 80 : Nat) : Int) := by omega
    go_wp2_with fail
    have ES2 := Lib.hid (show Es w2 (.slice (some ⟨T, 0, none⟩) L.length cp) L by
      have := OW2.out.es L.length cp (Nat.le_refl _) hcp
      rwa [lis_getD] at this)
    by_cases a0 : at_ < 0
    · have e0 : ¬ (0 : Int) ≤ at_ := by omega
      refine (from18_none _ _ _ _ w2 (Or.inl a0)).mono ?_
      rintro e w3 ⟨rfl, rfl⟩
      go_wp2_with fail
      refine (intact22 T2 (L.length + 80) _ L _ _ w3 FU2.out ES2.out (by omega) (Nat.le_refl _)).mono ?_
      rintro e w4 ⟨rfl, hb4⟩
      have B4 := B2.out.trans (hb4.mono B2.out.size)
      go_wp2_with fail
      refine (runs3 w4).mono ?_
      rintro e w5 ⟨rfl, hb5⟩
      go_wp2
      go_ret
      exact ⟨rfl, B4.trans (hb5.mono B4.size)⟩
    · have e0 : (0 : Int) ≤ at_ := by omega
      by_cases a1 : (L.length : Int) ≤ at_
      · have e1 : ¬ at_ < (L.length : Int) := by omega
        refine (from18_none _ _ _ _ w2 (Or.inr (Or.inl a1))).mono ?_
        rintro e w3 ⟨rfl, rfl⟩
        go_wp2_with fail
        refine (intact22 T2 (L.length + 80) _ L _ _ w3 FU2.out ES2.out (by omega) (Nat.le_refl _)).mono ?_
        rintro e w4 ⟨rfl, hb4⟩
        have B4 := B2.out.trans (hb4.mono B2.out.size)
        go_wp2_with fail
        refine (runs3 w4).mono ?_
        rintro e w5 ⟨rfl, hb5⟩
        go_wp2
        go_ret
        exact ⟨rfl, B4.trans (hb5.mono B4.size)⟩
      · have e1 : at_ < (L.length : Int) := by omega
        by_cases a2 : 12 < L.length
        · have e2 : decide ((L.length : Int) ≤ 12) = false := by simp; omega
          refine (from18_none _ _ _ _ w2 (Or.inr (Or.inr a2))).mono ?_
          rintro e w3 ⟨rfl, rfl⟩
          go_wp2_with fail
          refine (intact22 T2 (L.length + 80) _ L _ _ w3 FU2.out ES2.out (by omega) (Nat.le_refl _)).mono ?_
          rintro e w4 ⟨rfl, hb4⟩
          have B4 := B2.out.trans (hb4.mono B2.out.size)
          go_wp2_with fail
          refine (runs3 w4).mono ?_
          rintro e w5 ⟨rfl, hb5⟩
          go_wp2
          go_ret
          exact ⟨rfl, B4.trans (hb5.mono B4.size)⟩
        · have e2 : (L.length : Int) ≤ 12 := by omega
          obtain ⟨a, rfl⟩ : ∃ a : Nat, at_ = (a : Int) := ⟨at_.toNat, by omega⟩
          clear a0 a1
          have hroom := FU2.out.es L.length (L.length + 80) (by omega) (by omega)
          rw [lis_room] at hroom
          refine (from18_yes _ L a w2 hroom hU (by omega) (by omega)).mono ?_
          rintro e w3 ⟨b, rfl, hbge, hp3, hb3⟩
          have OW3 := Lib.hid (OW2.out.call hb3)
          have FU3 := Lib.hid (FU2.out.call hb3)
          have ES3 := Lib.hid (ES2.out.call hb3)
          have B3 := Lib.hid (B2.out.trans (hb3.mono B2.out.size))
          have ltb : T < b := Nat.lt_of_lt_of_le OW2.out.lt hbge
          clear OW2 FU2 ES2 B2 hb3 hroom
          go_wp2_with fail
          refine (intact22 T2 (L.length + 80) _ L _ _ w3 FU3.out ES3.out (by omega) (Nat.le_refl _)).mono ?_
          rintro e w4 ⟨rfl, hb4⟩
          have OW4 := Lib.hid (OW3.out.call hb4)
          have B4 := Lib.hid (B3.out.trans (hb4.mono B3.out.size))
          have P4 := Lib.hid (hp3.call hb4)
          clear OW3 FU3 ES3 B3 hp3 hb4
          go_wp2_with fail
          go_loopw [57] (fun i wr => ∃ (k : Nat), k ≤ L.length ∧ i = .int .i64 k ∧ Hid (Rk wr T L.length (clK L k)) ∧ Hid (Pc wr b (fromK L L.length) (L.length - 1) a) ∧ Hid (Below w.heap.size w wr)) (fun i _ => L.length - (intOf i).toNat)
          case atStart => exact ⟨0, by omega, rfl, Lib.hid (OW4.out.congr (fun i _ => by simp [clK])), P4, B4⟩
          case round =>
            clear OW4 P4 B4
            obtain ⟨k, hk, rfl, OWr, PWr, BWr⟩ := hrel
            by_cases hlt : k < L.length
            · have d0 : (k : Int) < (L.length : Int) := by omega
              have g1 := OWr.out.scr k hlt
              rw [clK_at] at g1
              have hue := hU _ (getD_mem L k hlt)
              have f1 := OWr.out.fro (k * 2 + 1)
              have HE := Lib.hid hue
              have h3 := OWr.out.setScr k hlt (clI (L.getD k default).2)
              rw [clK_at, clK_next] at h3
              have H4 := Lib.hid h3
              have PW4 := Lib.hid (PWr.out.set ⟨T, k * 2 + 1, none⟩ (Ne.symm (Nat.ne_of_lt ltb)) (.int .u64 (clI (L.getD k default).2)))
              have BW4 := Lib.hid (BWr.out.trans (((Kp.refl (fun i => i = T) wr).setCell (p := ⟨T, k * 2 + 1, none⟩) (fun _ => rfl) (.int .u64 (clI (L.getD k default).2))).below BWr.out.size (fun i hi e => by omega)))
              clear h3 OWr PWr BWr hue
              generalize (L.getD k default).2 = x0 at *
              go_wp2_with (first | (go_at_call 16; refine (clean' _ _ HE.out).mono ?_; rintro e w5 ⟨rfl, rfl⟩))
              go_roundw
              case rel => exact ⟨k + 1, by omega, by go_num, H4, PW4, BW4⟩
              case measure => simp [intOf]; omega
            · obtain rfl : k = L.length := by omega
              go_wp2_with fail
              have hN11 : L.length - 1 ≤ 11 := by omega
              have hN1 : L.length - 1 + 1 = L.length := by omega
              refine (go10_yes 0 a wr PWr.out hN11 (by omega) (by simp [canB]; omega) (by omega)).mono ?_
              rintro e w6 ⟨rfl, h6⟩
              have P6 := Lib.hid h6.1
              have OW6 := Lib.hid (OWr.out.of_block (h6.2.block T OWr.out.lt (Nat.ne_of_lt ltb)))
              have B6 := Lib.hid (BWr.out.trans (h6.2.below BWr.out.size (fun i hi e => by omega)))
              clear h6 PWr OWr BWr
              have hx := blk_new w6 (.cells #[.string (fromK L L.length a).1, .int .u64 (fromK L L.length a).2] 28 (0, 0))
              have P7 := Lib.hid (P6.out.alloc (.cells #[.string (fromK L L.length a).1, .int .u64 (fromK L L.length a).2] 28 (0, 0)))
              have OW7 := Lib.hid (OW6.out.alloc (.cells #[.string (fromK L L.length a).1, .int .u64 (fromK L L.length a).2] 28 (0, 0)))
              have B7 := Lib.hid (B6.out.alloc B6.out.size (.cells #[.string (fromK L L.length a).1, .int .u64 (fromK L L.length a).2] 28 (0, 0)))
              clear P6 OW6 B6
              go_wp2_with fail
              generalize w6.alloc (.cells #[.string (fromK L L.length a).1, .int .u64 (fromK L L.length a).2] 28 (0, 0)) = w7 at *
              generalize w6.heap.size = TX at *
              have x0 := blk_cell hx 0
              have x1 := blk_cell hx 1
              simp at x0 x1
              have q0 := OW7.out.txt a (by omega)
              have q1 := OW7.out.scr a (by omega)
              rw [clK_from L a (by omega)] at q0 q1
              generalize hfa : fromK L L.length a = fa at *
              clear hfa
              have SS : ∀ W, Below w7.heap.size w7 W → W.cell? ⟨TX, 0, none⟩ = some (.string fa.1) ∧ W.cell? ⟨TX, 1, none⟩ = some (.int .u64 fa.2) ∧ W.cell? ⟨T, a * 2, none⟩ = some (.string fa.1) ∧ W.cell? ⟨T, a * 2 + 1, none⟩ = some (.int .u64 fa.2) := by
                intro W hW
                have k : ∀ (p : Addr) (v : Value), w7.cell? p = some v → W.cell? p = some v := fun p v hc => by rw [hW.cell (World.block_lt_of_cell? _ _ hc)]; exact hc
                exact ⟨k _ _ x0, k _ _ x1, k _ _ q0, k _ _ q1⟩
              have SH := Lib.hid SS
              clear SS x0 x1 q0 q1 hx
              have n1 : ((a : Int) == (a : Int)) = true := by simp
              refine wp_region_ord ((true, 0) :: (true, 2) :: (false, 1) :: (false, 3) :: (true, 4) :: (true, 5) :: (true, 7) :: (false, 6) :: (true, 8) :: (true, 9) :: (true, 10) :: (true, 11) :: (true, 12) :: (true, 13) :: (true, 14) :: (true, 15) :: (true, 16) :: (true, 17) :: (true, 18) :: (true, 19) :: (true, 20) :: (true, 21) :: (true, 22) :: (false, 23) :: (true, 24) :: (true, 25) :: []) (fun W => Below w7.heap.size w7 W) (by kernel_rfl) (by kernel_rfl) (by decide) (by kernel_rfl) (fun d _ _ _ _ h => by cases d <;> exact h) ((Below.refl _ w7).drew) ?_
              have S0 : Below w7.heap.size w7 w7.drew := (Below.refl _ w7).drew
              generalize w7.drew = wd at S0 ⊢
              refine ord_q (d := some 76) (v := ?_) rfl rfl (Or.inl ⟨by rfl, ?_⟩) ?_
              rotate_left
              · intro wz hSw
                obtain ⟨x0, x1, q0, q1⟩ := SH.out wz hSw
                go_simp
                (try with_reducible rfl)
              try simp only [Act.put, List.setIfInBounds_toArray, List.set_cons_zero, List.set_cons_succ]
              refine ord_q (d := some 78) (v := ?_) rfl rfl (Or.inl ⟨by rfl, ?_⟩) ?_
              rotate_left
              · intro wz hSw
                obtain ⟨x0, x1, q0, q1⟩ := SH.out wz hSw
                go_simp
                (try with_reducible rfl)
              try simp only [Act.put, List.setIfInBounds_toArray, List.set_cons_zero, List.set_cons_succ]
              refine ord_l ?_
              refine wpOp_step rfl (fun K' hK => ?_)
              have HK := Lib.hid hK
              clear hK
              rw [if_pos (by rfl)]
              go_simp
              refine (entries12 wd (P7.out.call S0) hN11).mono ?_
              rintro e w8 ⟨v8, rfl, hv8⟩
              have S1 := S0.trans (hv8.2.1.mono S0.size)
              rw [hN1] at hv8
              refine HK.out _ _ ⟨S1, ?_⟩
              clear HK
              try change OrdW _ _ _ _ _ (Act.put _ (some 77) _) _
              try simp only [Act.put, List.setIfInBounds_toArray, List.set_cons_zero, List.set_cons_succ]
              refine ord_l ?_
              refine wpOp_step rfl (fun K' hK => ?_)
              have HK := Lib.hid hK
              clear hK
              rw [if_pos (by rfl)]
              go_simp
              refine (same11 _ _ _ _ w8 hv8.es ((OW7.out.call S1).es L.length cp (Nat.le_refl _) hcp) (by rw [lis_len]; omega)).mono ?_
              rintro e w9 ⟨rfl, hb9⟩
              have S2 := S1.trans (hb9.mono S1.size)
              rw [show decide (lis (fromK L L.length) L.length = lis (clK L L.length) L.length) = true by rw [lis_congr (clK_from L)]; simp]
              refine HK.out _ _ ⟨S2, ?_⟩
              clear HK
              try change OrdW _ _ _ _ _ (Act.put _ (some 79) _) _
              try simp only [Act.put, List.setIfInBounds_toArray, List.set_cons_zero, List.set_cons_succ]
              refine ord_q (d := some 80) (v := ?_) rfl rfl (Or.inl ⟨by rfl, ?_⟩) ?_
              rotate_left
              · intro wz hSw
                obtain ⟨x0, x1, q0, q1⟩ := SH.out wz hSw
                go_simp
                (try with_reducible rfl)
              try simp only [Act.put, List.setIfInBounds_toArray, List.set_cons_zero, List.set_cons_succ]
              refine ord_q (d := some 81) (v := ?_) rfl rfl (Or.inl ⟨by rfl, ?_⟩) ?_
              rotate_left
              · intro wz hSw
                obtain ⟨x0, x1, q0, q1⟩ := SH.out wz hSw
                go_simp
                (try with_reducible rfl)
              try simp only [Act.put, List.setIfInBounds_toArray, List.set_cons_zero, List.set_cons_succ]
              refine ord_q (d := some 83) (v := ?_) rfl rfl (Or.inl ⟨by rfl, ?_⟩) ?_
              rotate_left
              · intro wz hSw
                obtain ⟨x0, x1, q0, q1⟩ := SH.out wz hSw
                go_simp
                (try with_reducible rfl)
              try simp only [Act.put, List.setIfInBounds_toArray, List.set_cons_zero, List.set_cons_succ]
              refine ord_l ?_
              refine wpOp_step rfl (fun K' hK => ?_)
              have HK := Lib.hid hK
              clear hK
              rw [if_pos (by rfl)]
              go_simp
              refine (at13 w9 (P7.out.call S2)).mono ?_
              rintro e w10 ⟨rfl, rfl⟩
              refine HK.out _ _ ⟨S2, ?_⟩
              clear HK
              try change OrdW _ _ _ _ _ (Act.put _ (some 82) _) _
              try simp only [Act.put, List.setIfInBounds_toArray, List.set_cons_zero, List.set_cons_succ]
              refine ord_q (d := some 84) (v := ?_) rfl rfl (Or.inl ⟨by rfl, ?_⟩) ?_
              rotate_left
              · intro wz hSw
                obtain ⟨x0, x1, q0, q1⟩ := SH.out wz hSw
                go_simp
                (try with_reducible rfl)
              try simp only [Act.put, List.setIfInBounds_toArray, List.set_cons_zero, List.set_cons_succ]
              refine ord_q (d := some 85) (v := ?_) rfl rfl (Or.inl ⟨by rfl, ?_⟩) ?_
              rotate_left
              · intro wz hSw
                obtain ⟨x0, x1, q0, q1⟩ := SH.out wz hSw
                go_simp
                (try with_reducible rfl)
              try simp only [Act.put, List.setIfInBounds_toArray, List.set_cons_zero, List.set_cons_succ]
              refine ord_q (d := some 86) (v := ?_) rfl rfl (Or.inl ⟨by rfl, ?_⟩) ?_
              rotate_left
              · intro wz hSw
                obtain ⟨x0, x1, q0, q1⟩ := SH.out wz hSw
                go_simp
                (try with_reducible rfl)
              try simp only [Act.put, List.setIfInBounds_toArray, List.set_cons_zero, List.set_cons_succ]
              refine ord_q (d := some 87) (v := ?_) rfl rfl (Or.inl ⟨by rfl, ?_⟩) ?_
              rotate_left
              · intro wz hSw
                obtain ⟨x0, x1, q0, q1⟩ := SH.out wz hSw
                go_simp
                (try with_reducible rfl)
              try simp only [Act.put, List.setIfInBounds_toArray, List.set_cons_zero, List.set_cons_succ]
              refine ord_q (d := some 88) (v := ?_) rfl rfl (Or.inl ⟨by rfl, ?_⟩) ?_
              rotate_left
              · intro wz hSw
                obtain ⟨x0, x1, q0, q1⟩ := SH.out wz hSw
                go_simp
                (try with_reducible rfl)
              try simp only [Act.put, List.setIfInBounds_toArray, List.set_cons_zero, List.set_cons_succ]
              refine ord_q (d := some 89) (v := ?_) rfl rfl (Or.inl ⟨by rfl, ?_⟩) ?_
              rotate_left
              · intro wz hSw
                obtain ⟨x0, x1, q0, q1⟩ := SH.out wz hSw
                go_simp
                (try with_reducible rfl)
              try simp only [Act.put, List.setIfInBounds_toArray, List.set_cons_zero, List.set_cons_succ]
              refine ord_q (d := some 90) (v := ?_) rfl rfl (Or.inl ⟨by rfl, ?_⟩) ?_
              rotate_left
              · intro wz hSw
                obtain ⟨x0, x1, q0, q1⟩ := SH.out wz hSw
                go_simp
                (try with_reducible rfl)
              try simp only [Act.put, List.setIfInBounds_toArray, List.set_cons_zero, List.set_cons_succ]
              refine ord_q (d := some 91) (v := ?_) rfl rfl (Or.inl ⟨by rfl, ?_⟩) ?_
              rotate_left
              · intro wz hSw
                obtain ⟨x0, x1, q0, q1⟩ := SH.out wz hSw
                go_simp
                (try with_reducible rfl)
              try simp only [Act.put, List.setIfInBounds_toArray, List.set_cons_zero, List.set_cons_succ]
              refine ord_q (d := some 92) (v := ?_) rfl rfl (Or.inl ⟨by rfl, ?_⟩) ?_
              rotate_left
              · intro wz hSw
                obtain ⟨x0, x1, q0, q1⟩ := SH.out wz hSw
                go_simp
                (try with_reducible rfl)
              try simp only [Act.put, List.setIfInBounds_toArray, List.set_cons_zero, List.set_cons_succ]
              refine ord_q (d := some 93) (v := ?_) rfl rfl (Or.inl ⟨by rfl, ?_⟩) ?_
              rotate_left
              · intro wz hSw
                obtain ⟨x0, x1, q0, q1⟩ := SH.out wz hSw
                go_simp
                (try with_reducible rfl)
              try simp only [Act.put, List.setIfInBounds_toArray, List.set_cons_zero, List.set_cons_succ]
              refine ord_q (d := some 94) (v := ?_) rfl rfl (Or.inl ⟨by rfl, ?_⟩) ?_
              rotate_left
              · intro wz hSw
                obtain ⟨x0, x1, q0, q1⟩ := SH.out wz hSw
                go_simp
                (try with_reducible rfl)
              try simp only [Act.put, List.setIfInBounds_toArray, List.set_cons_zero, List.set_cons_succ]
              refine ord_q (d := some 95) (v := ?_) rfl rfl (Or.inl ⟨by rfl, ?_⟩) ?_
              rotate_left
              · intro wz hSw
                obtain ⟨x0, x1, q0, q1⟩ := SH.out wz hSw
                go_simp
                (try with_reducible rfl)
              try simp only [Act.put, List.setIfInBounds_toArray, List.set_cons_zero, List.set_cons_succ]
              refine ord_q (d := some 96) (v := ?_) rfl rfl (Or.inl ⟨by rfl, ?_⟩) ?_
              rotate_left
              · intro wz hSw
                obtain ⟨x0, x1, q0, q1⟩ := SH.out wz hSw
                go_simp
                (try with_reducible rfl)
              try simp only [Act.put, List.setIfInBounds_toArray, List.set_cons_zero, List.set_cons_succ]
              refine ord_q (d := some 97) (v := ?_) rfl rfl (Or.inl ⟨by rfl, ?_⟩) ?_
              rotate_left
              · intro wz hSw
                obtain ⟨x0, x1, q0, q1⟩ := SH.out wz hSw
                go_simp
                (try with_reducible rfl)
              try simp only [Act.put, List.setIfInBounds_toArray, List.set_cons_zero, List.set_cons_succ]
              refine ord_q (d := some 98) (v := ?_) rfl rfl (Or.inl ⟨by rfl, ?_⟩) ?_
              rotate_left
              · intro wz hSw
                obtain ⟨x0, x1, q0, q1⟩ := SH.out wz hSw
                go_simp
                (try with_reducible rfl)
              try simp only [Act.put, List.setIfInBounds_toArray, List.set_cons_zero, List.set_cons_succ]
              refine ord_l ?_
              refine wpOp_step rfl (fun K' hK => ?_)
              have HK := Lib.hid hK
              clear hK
              rw [if_pos (by rfl)]
              go_simp
              refine (runs3 w9).mono ?_
              rintro e w11 ⟨rfl, hb11⟩
              have S3 := S2.trans (hb11.mono S2.size)
              refine HK.out _ _ ⟨S3, ?_⟩
              clear HK
              try change OrdW _ _ _ _ _ (Act.put _ (some 99) _) _
              try simp only [Act.put, List.setIfInBounds_toArray, List.set_cons_zero, List.set_cons_succ]
              refine ord_q (d := some 100) (v := ?_) rfl rfl (Or.inl ⟨by rfl, ?_⟩) ?_
              rotate_left
              · intro wz hSw
                obtain ⟨x0, x1, q0, q1⟩ := SH.out wz hSw
                go_simp
                (try with_reducible rfl)
              try simp only [Act.put, List.setIfInBounds_toArray, List.set_cons_zero, List.set_cons_succ]
              refine ord_q (d := some 4) (v := ?_) rfl rfl (Or.inl ⟨by rfl, ?_⟩) ?_
              rotate_left
              · intro wz hSw
                obtain ⟨x0, x1, q0, q1⟩ := SH.out wz hSw
                go_simp
                (try with_reducible rfl)
              try simp only [Act.put, List.setIfInBounds_toArray, List.set_cons_zero, List.set_cons_succ]
              refine ord_nil ?_
              go_wp2
              go_ret
              exact ⟨rfl, B7.out.trans (S3.mono B7.out.size)⟩
end Go.Proofs.Ytbkhlmnonjkelaa
