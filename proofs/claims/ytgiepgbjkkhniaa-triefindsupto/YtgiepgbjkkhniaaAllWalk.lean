/-
  TrieAll, walked: what comes in, the patterns and the path.
-/
import Derived.Test.YtgiepgbjkkhniaaRuns
import Derived.Test.YtgiepgbjkkhniaaSome
import Derived.Test.YtgiepgbjkkhniaaKeepURL
import Derived.Test.YtgiepgbjkkhniaaSetI
namespace Go.Proofs.Ytgiepgbjkkhniaa
open Go.RowKit Go.PlainAid Go.Maps
set_option maxRecDepth 100000
theorem field45 (A1 : Option Addr) (n1 c1 : Nat) (A2 : Option Addr) (n2 c2 : Nat) (w : World) : (Instr.field 45 (.agg #[.slice A1 n1 c1, .slice A2 n2 c2]) 0).run Try.prog w = .ok (.slice A1 n1 c1) w := by
  kernel_rfl
section
variable {P : Program} {ops : Array Oper} {Q : Exit → Act → World → Prop} {md : Region.Mode} {S : World → Prop} {n : Nat}
/-- the one or the other comes first -/
theorem sink_either {i j : Nat} {m : Nat} {ls : Array Bool} {a : Act} {w : World} (hr : Region.ready md ops ls = [i, j])
    (h1 : wpOp P ops Q i (fun a' w' => (i = n ∨ S w') ∧ wpSink P md ops Q S n m (ls.setIfInBounds i true) a' w') a w)
    (h2 : wpOp P ops Q j (fun a' w' => (j = n ∨ S w') ∧ wpSink P md ops Q S n m (ls.setIfInBounds j true) a' w') a w) : wpSink P md ops Q S n (m + 1) ls a w :=
  ⟨fun h0 => absurd (hr ▸ h0) (by simp), fun k hk => by
    rw [hr, List.mem_cons, List.mem_singleton] at hk
    rcases hk with e | e <;> rw [e]
    · exact h1
    · exact h2⟩
end
theorem mt_len (l : List Sg) (path : List ByteArray) : (mtL l path).length ≤ 1000000000 := by
  by_cases hr : rgB l = true
  · have h8 := rg_len hr
    rw [(mt_some hr).2]
    have : ∀ (l : List Sg) (p : List ByteArray), ((mtR l p).getD []).length ≤ l.length := by
      intro l
      induction l with
      | nil => intro p; rw [mtR]; split <;> simp
      | cons g r ih =>
        intro p
        rw [mtR]
        rcases tkN g p with _ | m
        · simp
        · have h1 := ih (p.drop m)
          rcases hq : mtR r (p.drop m) with _ | q
          · simp [hq]
          · have h2 : (tlP g (p.take m)).length ≤ 1 := by unfold tlP; split <;> simp
            rw [hq] at h1
            simp [hq] at h1 ⊢
            omega
    have := this l path
    omega
  · have hr : rgB l = false := by simpa using hr
    rw [(mt_wrong hr).2]
    simp
theorem words_size : ∀ s ∈ wordsL, s.size ≤ 100000000 := by decide +kernel
/-- the patterns and the path, in memory -/
def LP (w : World) (ls : List (List Sg)) (path : List ByteArray) (v5 v6 : Value) (wz : World) : Prop :=
  Gss wz v5 ls ∧ Ss wz v6 path ∧ ls.length ≤ 12 ∧ Few ls ∧ (∀ s ∈ path, s.size ≤ 100000000) ∧ path.length ≤ 1000 ∧ Below w.heap.size w wz
theorem LP.call {w wz wz' : World} {ls : List (List Sg)} {path : List ByteArray} {v5 v6 : Value} (h : LP w ls path v5 v6 wz) (hb : Below wz.heap.size wz wz') : LP w ls path v5 v6 wz' := by
  obtain ⟨h1, h2, h3, h4, h5, h6, h7⟩ := h
  exact ⟨h1.call hb, h2.call hb, h3, h4, h5, h6, h7.trans (hb.mono h7.size)⟩
theorem SetI.look {b n : Nat} {N : List Nat} {w : World} (h : SetI b n N w) (s : Nat) (hs : s ≤ 1000) : (Instr.lookup 53 (.map (some b)) (.int .i64 (s : Int)) false).run Try.prog w = .ok (.bool (decide (s ∈ N))) w := by
  obtain ⟨D, h1, _, h3⟩ := h
  obtain ⟨v, ps, hrun, hv⟩ := h1.lookup law3 Try.underlying53 (zero4i w) (plainElem_bool Try.underlying4 false) (keyOf_int_mk Try.underlying3 (wf_nat s hs))
  obtain ⟨c, rfl, hc⟩ := plainElem_bool_invI Try.underlying4 hv
  rw [h3 s hs] at hc
  have hc : decide (s ∈ N) = c := by simp at hc; exact hc.1
  subst hc
  exact hrun
theorem SetI.drN {b n : Nat} {N : List Nat} {w w' : World} (h : SetI b n N w) (hw : ∃ q, w' = w.drewN q) : SetI b n N w' := by
  obtain ⟨q, rfl⟩ := hw
  exact h
theorem SetI.call {b n : Nat} {N : List Nat} {w w' : World} (h : SetI b n N w) (hb : Below w.heap.size w w') : SetI b n N w' := by
  obtain ⟨D, ⟨es, ck, h1, h2⟩, h3⟩ := h
  exact ⟨D, ⟨es, ck, (hb.block b (blk_lt h1)).trans h1, h2⟩, h3⟩

set_option maxHeartbeats 6400000 in
theorem all_any (A : Option Addr) (n c : Nat) (A1 A2 A3 : Option Addr) (n1 c1 n2 c2 n3 c3 : Nat) (f1 f2 f3 : Nat → Int) (w : World) (hk : Ks w A n) (h1 : Ia w A1 n1 f1) (h2 : Ia w A2 n2 f2) (h3 : Ia w A3 n3 f3) :
    Calls Try.prog 5 #[.slice A n c, .agg #[.slice A1 n1 c1, .slice A2 n2 c2, .slice A3 n3 c3]] w fun e w' => e = .returned (.bool true) ∧ Below w.heap.size w w' := by
  have HK := Lib.hid hk
  have H1 := Lib.hid h1
  have H2 := Lib.hid h2
  have H3 := Lib.hid h3
  have F45 := field45
  clear hk h1 h2 h3
  have BX := Lib.hid (blk_new w (.cells #[.slice A1 n1 c1, .slice A2 n2 c2, .slice A3 n3 c3] 42 (0, 0)))
  have B1 := Lib.hid ((Below.refl w.heap.size w).alloc (Nat.le_refl _) (.cells #[.slice A1 n1 c1, .slice A2 n2 c2, .slice A3 n3 c3] 42 (0, 0)))
  have XK : Hid (∀ W : World, Below w.heap.size w W → Calls Try.prog 12 #[.slice A n c, .slice none 0 0] W fun e w' => ∃ u ls, e = .returned u ∧ Gss w' u ls ∧ ls.length ≤ 12 ∧ Few ls ∧ Below W.heap.size W w') := fun W hW => by
    refine (some10 A n c (.slice none 0 0) [] W (HK.out.call hW) (gss_nil W) (by simp) (by simp)).mono ?_
    rintro e w' ⟨u, ls, he, ho, h9, hl⟩
    exact ⟨u, ls, he, ho.gss, by simp at hl; omega, h9.few, ho.below⟩
  have XU : Hid (∀ W : World, Below w.heap.size w W → Calls Try.prog 13 #[.agg #[.slice A1 n1 c1, .slice A2 n2 c2, .slice A3 n3 c3]] W fun e w' => KeepPost W e w') := fun W hW =>
    url13 A1 A2 A3 n1 c1 n2 c2 n3 c3 f1 f2 f3 W (H1.out.call hW) (H2.out.call hW) (H3.out.call hW)
  go_enter Try.func5, Try.ntmps5
  go_upto_region 1 with fail
  generalize w.alloc (.cells #[.slice A1 n1 c1, .slice A2 n2 c2, .slice A3 n3 c3] 42) = w1 at *
  go_cut [5, 6] from 20 (fun v5 v6 wz => ∃ ls path, LP w ls path v5 v6 wz)
  case first =>
    have y0 : w1.cell? ⟨w.heap.size, 0, none⟩ = some (.slice A1 n1 c1) := by rw [blk_cell BX.out]; rfl
    have y1 : w1.cell? ⟨w.heap.size, 1, none⟩ = some (.slice A2 n2 c2) := by rw [blk_cell BX.out]; rfl
    have y2 : w1.cell? ⟨w.heap.size, 2, none⟩ = some (.slice A3 n3 c3) := by rw [blk_cell BX.out]; rfl
    have hul := blk_lt BX.out
    have KB : Hid (∀ W : World, Below w1.heap.size w1 W → (fun W : World => W.cell? ⟨w.heap.size, 0, none⟩ = some (.slice A1 n1 c1) ∧ W.cell? ⟨w.heap.size, 1, none⟩ = some (.slice A2 n2 c2) ∧ W.cell? ⟨w.heap.size, 2, none⟩ = some (.slice A3 n3 c3)) W) := fun W hW => ⟨by rw [hW.cell hul]; exact y0, by rw [hW.cell hul]; exact y1, by rw [hW.cell hul]; exact y2⟩
    have hS0 : (fun W : World => W.cell? ⟨w.heap.size, 0, none⟩ = some (.slice A1 n1 c1) ∧ W.cell? ⟨w.heap.size, 1, none⟩ = some (.slice A2 n2 c2) ∧ W.cell? ⟨w.heap.size, 2, none⟩ = some (.slice A3 n3 c3)) w1.drew := ⟨y0, y1, y2⟩
    refine wp_region_sink (S := (fun W : World => W.cell? ⟨w.heap.size, 0, none⟩ = some (.slice A1 n1 c1) ∧ W.cell? ⟨w.heap.size, 1, none⟩ = some (.slice A2 n2 c2) ∧ W.cell? ⟨w.heap.size, 2, none⟩ = some (.slice A3 n3 c3))) (n := 1000) (by kernel_rfl) ?_
    change wpSink _ _ _ _ _ 1000 7 _ _ _
    refine sink_take1 (i := 0) (d := some 20) (v := ?_) rfl rfl (by kernel_rfl) (by decide) (by kernel_rfl) (by kernel_rfl) (fun _ _ _ h => h) (Or.inl ⟨by rfl, ?_⟩) hS0 ?_
    rotate_left
    · intro wz hSw
      (try dsimp only at hSw)
      obtain ⟨g1, g2, g3⟩ := hSw
      go_simp
      (try with_reducible rfl)
    try simp only [Act.put, List.setIfInBounds_toArray, List.set_cons_zero, List.set_cons_succ]
    refine sink_take1 (i := 2) (d := some 22) (v := ?_) rfl rfl (by kernel_rfl) (by decide) (by kernel_rfl) (by kernel_rfl) (fun _ _ _ h => h) (Or.inl ⟨by rfl, ?_⟩) hS0 ?_
    rotate_left
    · intro wz hSw
      (try dsimp only at hSw)
      obtain ⟨g1, g2, g3⟩ := hSw
      go_simp
      (try with_reducible rfl)
    try simp only [Act.put, List.setIfInBounds_toArray, List.set_cons_zero, List.set_cons_succ]
    refine sink_one (i := 1) (by kernel_rfl) ?_
    refine wpOp_step rfl (fun K' hK => ?_)
    have HKK := Lib.hid hK
    clear hK
    rw [if_pos (by rfl)]
    go_simp
    refine (XK.out w1.drew (B1.out.drew)).mono ?_
    rintro e w2 ⟨u, ls, rfl, hgs, h12, hfew, hb2⟩
    have GS := Lib.hid hgs
    have FW := Lib.hid hfew
    have BB2 := Lib.hid (((Below.refl w1.heap.size w1).drew).trans (hb2.mono ((Below.refl w1.heap.size w1).drew).size))
    obtain ⟨Au, nu, cu, rfl⟩ := hgs.shape
    clear hgs hfew hb2
    refine HKK.out _ _ ⟨Or.inr (KB.out _ BB2.out), ?_⟩
    clear HKK
    try simp only [Act.put, List.setIfInBounds_toArray, List.set_cons_zero, List.set_cons_succ]
    refine sink_one (i := 3) (by kernel_rfl) ?_
    refine wpOp_step rfl (fun K' hK => ?_)
    have HKK := Lib.hid hK
    clear hK
    rw [if_pos (by rfl)]
    go_simp
    refine (XU.out w2 (B1.out.trans (BB2.out.mono B1.out.size))).mono ?_
    rintro e w3 ⟨v1, v2, p, q, rfl, hp, hq, hok, hb3⟩
    have PS := Lib.hid hp
    have OK := Lib.hid hok
    have BB3 := Lib.hid (BB2.out.trans (hb3.mono BB2.out.size))
    obtain ⟨Ap, np, cp, rfl⟩ := hp.shape
    obtain ⟨Aq, mq, cq, hq9⟩ : ∃ A n c, v2 = .slice A n c := (by obtain ⟨A, c, e, _⟩ := hq; exact ⟨_, _, _, e⟩)
    subst hq9
    clear hp hq hok
    have GS3 := Lib.hid (GS.out.call hb3)
    clear hb3
    have hS0 := KB.out _ BB3.out
    refine HKK.out _ _ ⟨Or.inr hS0, ?_⟩
    clear HKK
    try simp only [Act.put, List.setIfInBounds_toArray, List.set_cons_zero, List.set_cons_succ]
    refine sink_take1 (i := 4) (d := some 24) (v := ?_) rfl rfl (by kernel_rfl) (by decide) (by kernel_rfl) (by kernel_rfl) (fun _ _ _ h => h) (Or.inl ⟨by rfl, ?_⟩) hS0 ?_
    rotate_left
    · intro wz hSw
      (try dsimp only at hSw)
      go_simp
      (try with_reducible rfl)
    try simp only [Act.put, List.setIfInBounds_toArray, List.set_cons_zero, List.set_cons_succ]
    refine sink_take1 (i := 5) (d := some 5) (v := ?_) rfl rfl (by kernel_rfl) (by decide) (by kernel_rfl) (by kernel_rfl) (fun _ _ _ h => h) (Or.inl ⟨by rfl, ?_⟩) hS0 ?_
    rotate_left
    · intro wz hSw
      (try dsimp only at hSw)
      go_simp
      (try with_reducible rfl)
    try simp only [Act.put, List.setIfInBounds_toArray, List.set_cons_zero, List.set_cons_succ]
    refine sink_take1 (i := 6) (d := some 6) (v := ?_) rfl rfl (by kernel_rfl) (by decide) (by kernel_rfl) (by kernel_rfl) (fun _ _ _ h => h) (Or.inl ⟨by rfl, ?_⟩) hS0 ?_
    rotate_left
    · intro wz hSw
      (try dsimp only at hSw)
      go_simp
      (try with_reducible rfl)
    try simp only [Act.put, List.setIfInBounds_toArray, List.set_cons_zero, List.set_cons_succ]
    refine sink_done (by kernel_rfl) ?_
    go_wp2_with fail
    go_meet
    exact ⟨ls, p, GS3.out, PS.out, h12, FW.out, fun s hs => words_size s (OK.out.2.2.1 s hs), by have := OK.out.1; omega, B1.out.trans (BB3.out.mono B1.out.size)⟩
  obtain ⟨ls, path, hlp⟩ := hcut
  have L1 := Lib.hid hlp
  obtain ⟨A5, c5, hv5⟩ := box_len hlp.1
  obtain ⟨A6, n6, c6, hv6⟩ := hlp.2.1.shape
  subst hv5 hv6
  have l12 := hlp.2.2.1
  have XN := Lib.hid (trieNew _ ls wc hlp.1 l12)
  have hmm := @run_makeMap Try.prog
  clear hlp HK H1 H2 H3 F45 BX B1 XK XU
  go_wp2_with (first
    | (go_at_call 6; refine XN.out.mono ?_; rintro e w2 ⟨T, rfl, ht, hb⟩; have T2 := Lib.hid ht; have L2 := Lib.hid (L1.out.call hb); obtain ⟨al, hal, hal2⟩ := ht.al path; have AL := Lib.hid hal; clear ht hb hal XN)
    | (go_at_call 10; refine (trieAll T2.out _ path L2.out.2.1 L2.out.2.2.2.2.1 AL.out).mono ?_; rintro e w3 ⟨v3, rfl, hn3, hb3⟩; have T3 := Lib.hid (T2.out.call hb3); have L3 := Lib.hid (L2.out.call hb3); have N3 := Lib.hid hn3; obtain ⟨A8, c8, hv8⟩ := ni_len hn3; subst hv8; clear hn3 hb3 L1 L2 T2))
  have SN := Lib.hid (setI_new w3)
  have BN := Lib.hid ((Below.refl w3.heap.size w3).alloc (Nat.le_refl _) (.map #[] 0))
  generalize w3.alloc (.map #[] 0) = w4 at *
  go_loopw [35] (fun i wr => ∃ k : Nat, k ≤ al.length ∧ i = .int .i64 k ∧ SetI w3.heap.size k (al.take k).reverse wr ∧ Below w3.heap.size w3 wr) (fun i _ => al.length - (intOf i).toNat)
  case atStart => exact ⟨0, Nat.zero_le _, rfl, SN.out, BN.out⟩
  case round =>
    obtain ⟨k, hk, rfl, hset, hbw⟩ := hrel
    have HSet := Lib.hid hset
    have HB := Lib.hid hbw
    clear hset hbw SN BN
    by_cases hlt : k < al.length
    · have d0 : (k : Int) < (al.length : Int) := by omega
      have hpl := al_lt AL.out hlt
      have HIn : Hid (decide (al.getD k 0 ∈ (al.take k).reverse) = false) := by
        show _ = _
        rw [decide_eq_false_iff_not, List.mem_reverse]
        exact al_fresh AL.out hlt
      have TK : Hid ((al.take (k + 1)).reverse = al.getD k 0 :: (al.take k).reverse) := by
        show _ = _
        have e : al.take (k + 1) = al.take k ++ [al.getD k 0] := by
          rw [List.take_add_one]
          simp only [List.getD, List.getElem?_eq_getElem hlt, Option.toList_some, Option.getD_some]
        rw [e, List.reverse_append]
        rfl
      obtain ⟨A8', c8', e8, _, _, hc8⟩ := N3.out
      simp only [Value.slice.injEq] at e8
      obtain ⟨rfl, -, rfl⟩ := e8
      obtain ⟨ab, ao, rfl, hx8⟩ := hc8 k hlt
      have hab : ab < w3.heap.size := World.block_lt_of_cell? _ _ hx8
      have x0 : wr.cell? ⟨ab, ao + k, none⟩ = some (.int .i64 (al.getD k 0 : Nat)) := by rw [HB.out.cell hab]; exact hx8
      have HC8 := Lib.hid hc8
      clear hx8 hc8
      have hp1000 : al.getD k 0 ≤ 1000 := by omega
      by_cases hk0 : k = 0
      · subst hk0
        obtain ⟨p, hp⟩ : ∃ p, p = al.getD 0 0 := ⟨_, rfl⟩
        rw [← hp] at x0 HIn TK hpl hp1000
        clear hp
        have c1 : ¬ (p : Int) < 0 := by omega
        have c2 : ¬ (ls.length : Int) ≤ (p : Int) := by omega
        have c3 : decide (ls.length ≤ p) = false := by simp; omega
        have c4 : decide ((p : Int) < 0) = false := by simp
        rw [Nat.add_zero] at x0
        rw [show ((0 : Nat) : Int) = 0 from rfl] at *
        go_wp2_with fail
        have hS0 : (fun W : World => (Instr.lookup 53 (.map (some w3.heap.size)) (.int .i64 (p : Nat)) false).run Try.prog W = .ok (.bool false) W) wr.drew := (HSet.out.drew.look p (by omega)).trans (by rw [HIn.out])
        refine wp_region_sink (S := (fun W : World => (Instr.lookup 53 (.map (some w3.heap.size)) (.int .i64 (p : Nat)) false).run Try.prog W = .ok (.bool false) W)) (n := 1000) (by kernel_rfl) ?_
        change wpSink _ _ _ _ _ 1000 33 _ _ _
        refine sink_take1 (i := 0) (d := some 40) (v := ?_) rfl rfl (by kernel_rfl) (by decide) (by kernel_rfl) (by kernel_rfl) (fun _ _ _ h => h) (Or.inl ⟨by rfl, ?_⟩) hS0 ?_
        rotate_left
        · intro wz hSw
          (try dsimp only at hSw)
          go_simp
          (try with_reducible rfl)
        try simp only [Act.put, List.setIfInBounds_toArray, List.set_cons_zero, List.set_cons_succ]
        refine sink_take1 (i := 1) (d := some 41) (v := ?_) rfl rfl (by kernel_rfl) (by decide) (by kernel_rfl) (by kernel_rfl) (fun _ _ _ h => h) (Or.inl ⟨by rfl, ?_⟩) hS0 ?_
        rotate_left
        · intro wz hSw
          (try dsimp only at hSw)
          go_simp
          (try with_reducible rfl)
        try simp only [Act.put, List.setIfInBounds_toArray, List.set_cons_zero, List.set_cons_succ]
        refine sink_take1 (i := 2) (d := some 42) (v := ?_) rfl rfl (by kernel_rfl) (by decide) (by kernel_rfl) (by kernel_rfl) (fun _ _ _ h => h) (Or.inl ⟨by rfl, ?_⟩) hS0 ?_
        rotate_left
        · intro wz hSw
          (try dsimp only at hSw)
          go_simp
          (try with_reducible rfl)
        try simp only [Act.put, List.setIfInBounds_toArray, List.set_cons_zero, List.set_cons_succ]
        refine sink_take1 (i := 3) (d := some 43) (v := ?_) rfl rfl (by kernel_rfl) (by decide) (by kernel_rfl) (by kernel_rfl) (fun _ _ _ h => h) (Or.inl ⟨by rfl, ?_⟩) hS0 ?_
        rotate_left
        · intro wz hSw
          (try dsimp only at hSw)
          go_simp
          (try with_reducible rfl)
        try simp only [Act.put, List.setIfInBounds_toArray, List.set_cons_zero, List.set_cons_succ]
        refine sink_take1 (i := 4) (d := some 44) (v := ?_) rfl rfl (by kernel_rfl) (by decide) (by kernel_rfl) (by kernel_rfl) (fun _ _ _ h => h) (Or.inl ⟨by rfl, ?_⟩) hS0 ?_
        rotate_left
        · intro wz hSw
          (try dsimp only at hSw)
          go_simp
          (try with_reducible rfl)
        try simp only [Act.put, List.setIfInBounds_toArray, List.set_cons_zero, List.set_cons_succ]
        refine sink_take1 (i := 5) (d := some 45) (v := ?_) rfl rfl (by kernel_rfl) (by decide) (by kernel_rfl) (by kernel_rfl) (fun _ _ _ h => h) (Or.inl ⟨by rfl, ?_⟩) hS0 ?_
        rotate_left
        · intro wz hSw
          (try dsimp only at hSw)
          go_simp
          (try with_reducible rfl)
        try simp only [Act.put, List.setIfInBounds_toArray, List.set_cons_zero, List.set_cons_succ]
        refine sink_take1 (i := 6) (d := some 46) (v := ?_) rfl rfl (by kernel_rfl) (by decide) (by kernel_rfl) (by kernel_rfl) (fun _ _ _ h => h) (Or.inl ⟨by rfl, ?_⟩) hS0 ?_
        rotate_left
        · intro wz hSw
          (try dsimp only at hSw)
          go_simp
          (try with_reducible rfl)
        try simp only [Act.put, List.setIfInBounds_toArray, List.set_cons_zero, List.set_cons_succ]
        refine sink_take1 (i := 7) (d := some 47) (v := ?_) rfl rfl (by kernel_rfl) (by decide) (by kernel_rfl) (by kernel_rfl) (fun _ _ _ h => h) (Or.inl ⟨by rfl, ?_⟩) hS0 ?_
        rotate_left
        · intro wz hSw
          (try dsimp only at hSw)
          go_simp
          (try with_reducible rfl)
        try simp only [Act.put, List.setIfInBounds_toArray, List.set_cons_zero, List.set_cons_succ]
        refine sink_take1 (i := 8) (d := some 48) (v := ?_) rfl rfl (by kernel_rfl) (by decide) (by kernel_rfl) (by kernel_rfl) (fun _ _ _ h => h) (Or.inl ⟨by rfl, ?_⟩) hS0 ?_
        rotate_left
        · intro wz hSw
          (try dsimp only at hSw)
          go_simp
          (try with_reducible rfl)
        try simp only [Act.put, List.setIfInBounds_toArray, List.set_cons_zero, List.set_cons_succ]
        refine sink_take1 (i := 9) (d := some 49) (v := ?_) rfl rfl (by kernel_rfl) (by decide) (by kernel_rfl) (by kernel_rfl) (fun _ _ _ h => h) (Or.inl ⟨by rfl, ?_⟩) hS0 ?_
        rotate_left
        · intro wz hSw
          (try dsimp only at hSw)
          go_simp
          (try with_reducible rfl)
        try simp only [Act.put, List.setIfInBounds_toArray, List.set_cons_zero, List.set_cons_succ]
        refine sink_take1 (i := 10) (d := some 50) (v := ?_) rfl rfl (by kernel_rfl) (by decide) (by kernel_rfl) (by kernel_rfl) (fun _ _ _ h => h) (Or.inl ⟨by rfl, ?_⟩) hS0 ?_
        rotate_left
        · intro wz hSw
          (try dsimp only at hSw)
          go_simp
          (try with_reducible rfl)
        try simp only [Act.put, List.setIfInBounds_toArray, List.set_cons_zero, List.set_cons_succ]
        refine sink_take1 (i := 11) (d := some 51) (v := ?_) rfl rfl (by kernel_rfl) (by decide) (by kernel_rfl) (by kernel_rfl) (fun _ _ _ h => h) (Or.inl ⟨by rfl, ?_⟩) hS0 ?_
        rotate_left
        · intro wz hSw
          (try dsimp only at hSw)
          go_simp
          (try with_reducible rfl)
        try simp only [Act.put, List.setIfInBounds_toArray, List.set_cons_zero, List.set_cons_succ]
        refine sink_take1 (i := 12) (d := some 52) (v := ?_) rfl rfl (by kernel_rfl) (by decide) (by kernel_rfl) (by kernel_rfl) (fun _ _ _ h => h) (Or.inl ⟨by rfl, ?_⟩) hS0 ?_
        rotate_left
        · intro wz hSw
          (try dsimp only at hSw)
          go_simp
          (try with_reducible rfl)
        try simp only [Act.put, List.setIfInBounds_toArray, List.set_cons_zero, List.set_cons_succ]
        refine sink_take1 (i := 13) (d := some 53) (v := ?_) rfl rfl (by kernel_rfl) (by decide) (by kernel_rfl) (by kernel_rfl) (fun _ _ _ h => h) (Or.inl ⟨by rfl, ?_⟩) hS0 ?_
        rotate_left
        · intro wz hSw
          (try dsimp only at hSw)
          go_simp
          (try with_reducible rfl)
        try simp only [Act.put, List.setIfInBounds_toArray, List.set_cons_zero, List.set_cons_succ]
        refine sink_take1 (i := 14) (d := some 54) (v := ?_) rfl rfl (by kernel_rfl) (by decide) (by kernel_rfl) (by kernel_rfl) (fun _ _ _ h => h) (Or.inl ⟨by rfl, ?_⟩) hS0 ?_
        rotate_left
        · intro wz hSw
          (try dsimp only at hSw)
          go_simp
          (try with_reducible rfl)
        try simp only [Act.put, List.setIfInBounds_toArray, List.set_cons_zero, List.set_cons_succ]
        refine sink_take1 (i := 15) (d := some 55) (v := ?_) rfl rfl (by kernel_rfl) (by decide) (by kernel_rfl) (by kernel_rfl) (fun _ _ _ h => h) (Or.inl ⟨by rfl, ?_⟩) hS0 ?_
        rotate_left
        · intro wz hSw
          (try dsimp only at hSw)
          go_simp
          (try with_reducible rfl)
        try simp only [Act.put, List.setIfInBounds_toArray, List.set_cons_zero, List.set_cons_succ]
        refine sink_take1 (i := 16) (d := some 56) (v := ?_) rfl rfl (by kernel_rfl) (by decide) (by kernel_rfl) (by kernel_rfl) (fun _ _ _ h => h) (Or.inl ⟨by rfl, ?_⟩) hS0 ?_
        rotate_left
        · intro wz hSw
          (try dsimp only at hSw)
          go_simp
          (try with_reducible rfl)
        try simp only [Act.put, List.setIfInBounds_toArray, List.set_cons_zero, List.set_cons_succ]
        refine sink_take1 (i := 17) (d := some 57) (v := undef) rfl rfl (by kernel_rfl) (by decide) (by kernel_rfl) (by kernel_rfl) (fun _ _ _ h => h) (Or.inr ⟨by kernel_rfl, rfl⟩) hS0 ?_
        try simp only [Act.put, List.setIfInBounds_toArray, List.set_cons_zero, List.set_cons_succ]
        refine sink_take1 (i := 18) (d := some 58) (v := undef) rfl rfl (by kernel_rfl) (by decide) (by kernel_rfl) (by kernel_rfl) (fun _ _ _ h => h) (Or.inr ⟨by kernel_rfl, rfl⟩) hS0 ?_
        try simp only [Act.put, List.setIfInBounds_toArray, List.set_cons_zero, List.set_cons_succ]
        refine sink_take1 (i := 19) (d := some 59) (v := undef) rfl rfl (by kernel_rfl) (by decide) (by kernel_rfl) (by kernel_rfl) (fun _ _ _ h => h) (Or.inr ⟨by kernel_rfl, rfl⟩) hS0 ?_
        try simp only [Act.put, List.setIfInBounds_toArray, List.set_cons_zero, List.set_cons_succ]
        refine sink_take1 (i := 20) (d := some 60) (v := undef) rfl rfl (by kernel_rfl) (by decide) (by kernel_rfl) (by kernel_rfl) (fun _ _ _ h => h) (Or.inr ⟨by kernel_rfl, rfl⟩) hS0 ?_
        try simp only [Act.put, List.setIfInBounds_toArray, List.set_cons_zero, List.set_cons_succ]
        refine sink_take1 (i := 21) (d := some 61) (v := undef) rfl rfl (by kernel_rfl) (by decide) (by kernel_rfl) (by kernel_rfl) (fun _ _ _ h => h) (Or.inr ⟨by kernel_rfl, rfl⟩) hS0 ?_
        try simp only [Act.put, List.setIfInBounds_toArray, List.set_cons_zero, List.set_cons_succ]
        refine sink_take1 (i := 22) (d := some 62) (v := undef) rfl rfl (by kernel_rfl) (by decide) (by kernel_rfl) (by kernel_rfl) (fun _ _ _ h => h) (Or.inr ⟨by kernel_rfl, rfl⟩) hS0 ?_
        try simp only [Act.put, List.setIfInBounds_toArray, List.set_cons_zero, List.set_cons_succ]
        refine sink_take1 (i := 23) (d := some 63) (v := undef) rfl rfl (by kernel_rfl) (by decide) (by kernel_rfl) (by kernel_rfl) (fun _ _ _ h => h) (Or.inr ⟨by kernel_rfl, rfl⟩) hS0 ?_
        try simp only [Act.put, List.setIfInBounds_toArray, List.set_cons_zero, List.set_cons_succ]
        refine sink_take1 (i := 24) (d := some 64) (v := undef) rfl rfl (by kernel_rfl) (by decide) (by kernel_rfl) (by kernel_rfl) (fun _ _ _ h => h) (Or.inr ⟨by kernel_rfl, rfl⟩) hS0 ?_
        try simp only [Act.put, List.setIfInBounds_toArray, List.set_cons_zero, List.set_cons_succ]
        refine sink_take1 (i := 25) (d := some 65) (v := undef) rfl rfl (by kernel_rfl) (by decide) (by kernel_rfl) (by kernel_rfl) (fun _ _ _ h => h) (Or.inr ⟨by kernel_rfl, rfl⟩) hS0 ?_
        try simp only [Act.put, List.setIfInBounds_toArray, List.set_cons_zero, List.set_cons_succ]
        refine sink_take1 (i := 26) (d := some 66) (v := undef) rfl rfl (by kernel_rfl) (by decide) (by kernel_rfl) (by kernel_rfl) (fun _ _ _ h => h) (Or.inr ⟨by kernel_rfl, rfl⟩) hS0 ?_
        try simp only [Act.put, List.setIfInBounds_toArray, List.set_cons_zero, List.set_cons_succ]
        refine sink_take1 (i := 27) (d := some 67) (v := undef) rfl rfl (by kernel_rfl) (by decide) (by kernel_rfl) (by kernel_rfl) (fun _ _ _ h => h) (Or.inr ⟨by kernel_rfl, rfl⟩) hS0 ?_
        try simp only [Act.put, List.setIfInBounds_toArray, List.set_cons_zero, List.set_cons_succ]
        refine sink_take1 (i := 28) (d := some 68) (v := undef) rfl rfl (by kernel_rfl) (by decide) (by kernel_rfl) (by kernel_rfl) (fun _ _ _ h => h) (Or.inr ⟨by kernel_rfl, rfl⟩) hS0 ?_
        try simp only [Act.put, List.setIfInBounds_toArray, List.set_cons_zero, List.set_cons_succ]
        refine sink_take1 (i := 29) (d := some 69) (v := undef) rfl rfl (by kernel_rfl) (by decide) (by kernel_rfl) (by kernel_rfl) (fun _ _ _ h => h) (Or.inr ⟨by kernel_rfl, rfl⟩) hS0 ?_
        try simp only [Act.put, List.setIfInBounds_toArray, List.set_cons_zero, List.set_cons_succ]
        refine sink_take1 (i := 30) (d := some 70) (v := undef) rfl rfl (by kernel_rfl) (by decide) (by kernel_rfl) (by kernel_rfl) (fun _ _ _ h => h) (Or.inr ⟨by kernel_rfl, rfl⟩) hS0 ?_
        try simp only [Act.put, List.setIfInBounds_toArray, List.set_cons_zero, List.set_cons_succ]
        refine sink_take1 (i := 31) (d := some 71) (v := ?_) rfl rfl (by kernel_rfl) (by decide) (by kernel_rfl) (by kernel_rfl) (fun _ _ _ h => h) (Or.inl ⟨by rfl, ?_⟩) hS0 ?_
        rotate_left
        · intro wz hSw
          (try dsimp only at hSw)
          go_simp
          (try with_reducible rfl)
        try simp only [Act.put, List.setIfInBounds_toArray, List.set_cons_zero, List.set_cons_succ]
        refine sink_take1 (i := 32) (d := some 72) (v := ?_) rfl rfl (by kernel_rfl) (by decide) (by kernel_rfl) (by kernel_rfl) (fun _ _ _ h => h) (Or.inl ⟨by rfl, ?_⟩) hS0 ?_
        rotate_left
        · intro wz hSw
          (try dsimp only at hSw)
          go_simp
          (try with_reducible rfl)
        try simp only [Act.put, List.setIfInBounds_toArray, List.set_cons_zero, List.set_cons_succ]
        refine sink_done (by kernel_rfl) ?_
        go_wp2_with (first | (at_mapUpdate; refine wpList_setPutI _ rfl (.tmp 73) (.tmp 74) _ rfl w3.heap.size 0 _ rfl (HSet.out.drN ⟨1, rfl⟩) p rfl (by omega) rfl (by unfold maxLen; omega) ?_; intro w8 hs8 hg8; have HS8 := Lib.hid hs8; have HB8 := Lib.hid ((HB.out.trans (drB ⟨1, rfl⟩ _)).grown hg8 (HB.out.trans (drB ⟨1, rfl⟩ _)).size (fun j hj => by cases hj; exact Nat.le_refl _)); clear hs8 hg8))
        go_roundw
        case rel => exact ⟨0 + 1, by omega, rfl, by rw [TK.out]; exact HS8.out, HB8.out⟩
        case measure => simp [intOf]; omega
      · obtain ⟨kp, rfl⟩ : ∃ kp, k = kp + 1 := ⟨k - 1, by omega⟩
        obtain ⟨ab', ao', eab, hx9⟩ := HC8.out kp (by omega)
        cases eab
        have hpp := al_lt AL.out (show kp < al.length by omega)
        have NX := Lib.hid (al_next AL.out hlt)
        obtain ⟨A5', c5', e5, _, _, hc5⟩ := L3.out.1
        simp only [Value.slice.injEq] at e5
        obtain ⟨rfl, -, rfl⟩ := e5
        obtain ⟨lb, lo, uq, hlb, hxq, hgq⟩ := hc5 _ hpp
        subst hlb
        obtain ⟨lb', lo', up, hlb', hxp, hgp⟩ := hc5 _ hpl
        cases hlb'
        obtain ⟨Aq, mq, cq, rfl⟩ := hgq.shape
        obtain ⟨Ap, np, cp, rfl⟩ := hgp.shape
        have hlbl : lb < w3.heap.size := World.block_lt_of_cell? _ _ hxq
        have XQ := Lib.hid (fun W (hW : ∃ q, W = wr.drewN q) => compare8 _ _ _ _ W ((hgq.call HB.out).drN hW) ((hgp.call HB.out).drN hW) (L3.out.2.2.2.1.at _) (L3.out.2.2.2.1.at _))
        have z0 : wr.cell? ⟨ab, ao + kp, none⟩ = some (.int .i64 (al.getD kp 0 : Nat)) := by rw [HB.out.cell hab]; exact hx9
        have zq : wr.cell? ⟨lb, lo + al.getD kp 0, none⟩ = some (.slice Aq mq cq) := by rw [HB.out.cell hlbl]; exact hxq
        have zp : wr.cell? ⟨lb, lo + al.getD (kp + 1) 0, none⟩ = some (.slice Ap np cp) := by rw [HB.out.cell hlbl]; exact hxp
        clear hx9 hc5 hxq hxp hgq hgp
        obtain ⟨p, hp⟩ : ∃ p, p = al.getD (kp + 1) 0 := ⟨_, rfl⟩
        obtain ⟨p0, hp0⟩ : ∃ p0, p0 = al.getD kp 0 := ⟨_, rfl⟩
        rw [← hp] at x0 HIn TK hpl hp1000 NX zp XQ
        rw [← hp0] at z0 zq hpp NX XQ
        clear hp hp0
        generalize cP (ls.getD p0 default) (ls.getD p default) = r at *
        have c1 : ¬ (p : Int) < 0 := by omega
        have c2 : ¬ (ls.length : Int) ≤ (p : Int) := by omega
        have c3 : decide (ls.length ≤ p) = false := by simp; omega
        have c4 : decide ((p : Int) < 0) = false := by simp
        have p1 : (p : Int) < (ls.length : Int) := by omega
        have p2 : (p0 : Int) < (ls.length : Int) := by omega
        have e3 : (kp : Int) + 1 - 1 = (kp : Int) := by omega
        have e7 : IntKind.i64.wrap (kp : Int) = (kp : Int) := by rw [IntKind.wrap_i64]; omega
        have e4 : (kp : Int) < (al.length : Int) := by omega
        have e5 : (0 : Int) < (kp : Int) + 1 := by omega
        have e6 : decide (0 < kp + 1) = true := by simp
        have j1 : ¬ 0 < r := NX.out
        have j3 : decide (0 < r) = false := by simp; omega
        go_wp2_with fail
        have hS0 : (fun W : World => (Instr.lookup 53 (.map (some w3.heap.size)) (.int .i64 (p : Nat)) false).run Try.prog W = .ok (.bool false) W ∧ W.cell? ⟨ab, ao + kp, none⟩ = some (.int .i64 (p0 : Nat)) ∧ W.cell? ⟨lb, lo + p0, none⟩ = some (.slice Aq mq cq) ∧ W.cell? ⟨lb, lo + p, none⟩ = some (.slice Ap np cp)) wr.drew := ⟨(HSet.out.drew.look p (by omega)).trans (by rw [HIn.out]), z0, zq, zp⟩
        refine wp_region_sink (S := (fun W : World => (Instr.lookup 53 (.map (some w3.heap.size)) (.int .i64 (p : Nat)) false).run Try.prog W = .ok (.bool false) W ∧ W.cell? ⟨ab, ao + kp, none⟩ = some (.int .i64 (p0 : Nat)) ∧ W.cell? ⟨lb, lo + p0, none⟩ = some (.slice Aq mq cq) ∧ W.cell? ⟨lb, lo + p, none⟩ = some (.slice Ap np cp))) (n := 1000) (by kernel_rfl) ?_
        change wpSink _ _ _ _ _ 1000 33 _ _ _
        refine sink_take1 (i := 0) (d := some 40) (v := ?_) rfl rfl (by kernel_rfl) (by decide) (by kernel_rfl) (by kernel_rfl) (fun _ _ _ h => h) (Or.inl ⟨by rfl, ?_⟩) hS0 ?_
        rotate_left
        · intro wz hSw
          (try dsimp only at hSw)
          obtain ⟨g1, g2, g3, g4⟩ := hSw
          go_simp
          (try with_reducible rfl)
        try simp only [Act.put, List.setIfInBounds_toArray, List.set_cons_zero, List.set_cons_succ]
        refine sink_take1 (i := 1) (d := some 41) (v := ?_) rfl rfl (by kernel_rfl) (by decide) (by kernel_rfl) (by kernel_rfl) (fun _ _ _ h => h) (Or.inl ⟨by rfl, ?_⟩) hS0 ?_
        rotate_left
        · intro wz hSw
          (try dsimp only at hSw)
          obtain ⟨g1, g2, g3, g4⟩ := hSw
          go_simp
          (try with_reducible rfl)
        try simp only [Act.put, List.setIfInBounds_toArray, List.set_cons_zero, List.set_cons_succ]
        refine sink_take1 (i := 2) (d := some 42) (v := ?_) rfl rfl (by kernel_rfl) (by decide) (by kernel_rfl) (by kernel_rfl) (fun _ _ _ h => h) (Or.inl ⟨by rfl, ?_⟩) hS0 ?_
        rotate_left
        · intro wz hSw
          (try dsimp only at hSw)
          obtain ⟨g1, g2, g3, g4⟩ := hSw
          go_simp
          (try with_reducible rfl)
        try simp only [Act.put, List.setIfInBounds_toArray, List.set_cons_zero, List.set_cons_succ]
        refine sink_take1 (i := 3) (d := some 43) (v := ?_) rfl rfl (by kernel_rfl) (by decide) (by kernel_rfl) (by kernel_rfl) (fun _ _ _ h => h) (Or.inl ⟨by rfl, ?_⟩) hS0 ?_
        rotate_left
        · intro wz hSw
          (try dsimp only at hSw)
          obtain ⟨g1, g2, g3, g4⟩ := hSw
          go_simp
          (try with_reducible rfl)
        try simp only [Act.put, List.setIfInBounds_toArray, List.set_cons_zero, List.set_cons_succ]
        refine sink_take1 (i := 4) (d := some 44) (v := ?_) rfl rfl (by kernel_rfl) (by decide) (by kernel_rfl) (by kernel_rfl) (fun _ _ _ h => h) (Or.inl ⟨by rfl, ?_⟩) hS0 ?_
        rotate_left
        · intro wz hSw
          (try dsimp only at hSw)
          obtain ⟨g1, g2, g3, g4⟩ := hSw
          go_simp
          (try with_reducible rfl)
        try simp only [Act.put, List.setIfInBounds_toArray, List.set_cons_zero, List.set_cons_succ]
        refine sink_take1 (i := 5) (d := some 45) (v := ?_) rfl rfl (by kernel_rfl) (by decide) (by kernel_rfl) (by kernel_rfl) (fun _ _ _ h => h) (Or.inl ⟨by rfl, ?_⟩) hS0 ?_
        rotate_left
        · intro wz hSw
          (try dsimp only at hSw)
          obtain ⟨g1, g2, g3, g4⟩ := hSw
          go_simp
          (try with_reducible rfl)
        try simp only [Act.put, List.setIfInBounds_toArray, List.set_cons_zero, List.set_cons_succ]
        refine sink_take1 (i := 6) (d := some 46) (v := ?_) rfl rfl (by kernel_rfl) (by decide) (by kernel_rfl) (by kernel_rfl) (fun _ _ _ h => h) (Or.inl ⟨by rfl, ?_⟩) hS0 ?_
        rotate_left
        · intro wz hSw
          (try dsimp only at hSw)
          obtain ⟨g1, g2, g3, g4⟩ := hSw
          go_simp
          (try with_reducible rfl)
        try simp only [Act.put, List.setIfInBounds_toArray, List.set_cons_zero, List.set_cons_succ]
        refine sink_take1 (i := 7) (d := some 47) (v := ?_) rfl rfl (by kernel_rfl) (by decide) (by kernel_rfl) (by kernel_rfl) (fun _ _ _ h => h) (Or.inl ⟨by rfl, ?_⟩) hS0 ?_
        rotate_left
        · intro wz hSw
          (try dsimp only at hSw)
          obtain ⟨g1, g2, g3, g4⟩ := hSw
          go_simp
          (try with_reducible rfl)
        try simp only [Act.put, List.setIfInBounds_toArray, List.set_cons_zero, List.set_cons_succ]
        refine sink_take1 (i := 8) (d := some 48) (v := ?_) rfl rfl (by kernel_rfl) (by decide) (by kernel_rfl) (by kernel_rfl) (fun _ _ _ h => h) (Or.inl ⟨by rfl, ?_⟩) hS0 ?_
        rotate_left
        · intro wz hSw
          (try dsimp only at hSw)
          obtain ⟨g1, g2, g3, g4⟩ := hSw
          go_simp
          (try with_reducible rfl)
        try simp only [Act.put, List.setIfInBounds_toArray, List.set_cons_zero, List.set_cons_succ]
        refine sink_take1 (i := 9) (d := some 49) (v := ?_) rfl rfl (by kernel_rfl) (by decide) (by kernel_rfl) (by kernel_rfl) (fun _ _ _ h => h) (Or.inl ⟨by rfl, ?_⟩) hS0 ?_
        rotate_left
        · intro wz hSw
          (try dsimp only at hSw)
          obtain ⟨g1, g2, g3, g4⟩ := hSw
          go_simp
          (try with_reducible rfl)
        try simp only [Act.put, List.setIfInBounds_toArray, List.set_cons_zero, List.set_cons_succ]
        refine sink_take1 (i := 10) (d := some 50) (v := ?_) rfl rfl (by kernel_rfl) (by decide) (by kernel_rfl) (by kernel_rfl) (fun _ _ _ h => h) (Or.inl ⟨by rfl, ?_⟩) hS0 ?_
        rotate_left
        · intro wz hSw
          (try dsimp only at hSw)
          obtain ⟨g1, g2, g3, g4⟩ := hSw
          go_simp
          (try with_reducible rfl)
        try simp only [Act.put, List.setIfInBounds_toArray, List.set_cons_zero, List.set_cons_succ]
        refine sink_take1 (i := 11) (d := some 51) (v := ?_) rfl rfl (by kernel_rfl) (by decide) (by kernel_rfl) (by kernel_rfl) (fun _ _ _ h => h) (Or.inl ⟨by rfl, ?_⟩) hS0 ?_
        rotate_left
        · intro wz hSw
          (try dsimp only at hSw)
          obtain ⟨g1, g2, g3, g4⟩ := hSw
          go_simp
          (try with_reducible rfl)
        try simp only [Act.put, List.setIfInBounds_toArray, List.set_cons_zero, List.set_cons_succ]
        refine sink_take1 (i := 12) (d := some 52) (v := ?_) rfl rfl (by kernel_rfl) (by decide) (by kernel_rfl) (by kernel_rfl) (fun _ _ _ h => h) (Or.inl ⟨by rfl, ?_⟩) hS0 ?_
        rotate_left
        · intro wz hSw
          (try dsimp only at hSw)
          obtain ⟨g1, g2, g3, g4⟩ := hSw
          go_simp
          (try with_reducible rfl)
        try simp only [Act.put, List.setIfInBounds_toArray, List.set_cons_zero, List.set_cons_succ]
        refine sink_take1 (i := 13) (d := some 53) (v := ?_) rfl rfl (by kernel_rfl) (by decide) (by kernel_rfl) (by kernel_rfl) (fun _ _ _ h => h) (Or.inl ⟨by rfl, ?_⟩) hS0 ?_
        rotate_left
        · intro wz hSw
          (try dsimp only at hSw)
          obtain ⟨g1, g2, g3, g4⟩ := hSw
          go_simp
          (try with_reducible rfl)
        try simp only [Act.put, List.setIfInBounds_toArray, List.set_cons_zero, List.set_cons_succ]
        refine sink_take1 (i := 14) (d := some 54) (v := ?_) rfl rfl (by kernel_rfl) (by decide) (by kernel_rfl) (by kernel_rfl) (fun _ _ _ h => h) (Or.inl ⟨by rfl, ?_⟩) hS0 ?_
        rotate_left
        · intro wz hSw
          (try dsimp only at hSw)
          obtain ⟨g1, g2, g3, g4⟩ := hSw
          go_simp
          (try with_reducible rfl)
        try simp only [Act.put, List.setIfInBounds_toArray, List.set_cons_zero, List.set_cons_succ]
        refine sink_take1 (i := 15) (d := some 55) (v := ?_) rfl rfl (by kernel_rfl) (by decide) (by kernel_rfl) (by kernel_rfl) (fun _ _ _ h => h) (Or.inl ⟨by rfl, ?_⟩) hS0 ?_
        rotate_left
        · intro wz hSw
          (try dsimp only at hSw)
          obtain ⟨g1, g2, g3, g4⟩ := hSw
          go_simp
          (try with_reducible rfl)
        try simp only [Act.put, List.setIfInBounds_toArray, List.set_cons_zero, List.set_cons_succ]
        refine sink_take1 (i := 16) (d := some 56) (v := ?_) rfl rfl (by kernel_rfl) (by decide) (by kernel_rfl) (by kernel_rfl) (fun _ _ _ h => h) (Or.inl ⟨by rfl, ?_⟩) hS0 ?_
        rotate_left
        · intro wz hSw
          (try dsimp only at hSw)
          obtain ⟨g1, g2, g3, g4⟩ := hSw
          go_simp
          (try with_reducible rfl)
        try simp only [Act.put, List.setIfInBounds_toArray, List.set_cons_zero, List.set_cons_succ]
        refine sink_take1 (i := 17) (d := some 57) (v := ?_) rfl rfl (by kernel_rfl) (by decide) (by kernel_rfl) (by kernel_rfl) (fun _ _ _ h => h) (Or.inl ⟨by rfl, ?_⟩) hS0 ?_
        rotate_left
        · intro wz hSw
          (try dsimp only at hSw)
          obtain ⟨g1, g2, g3, g4⟩ := hSw
          go_simp
          (try with_reducible rfl)
        try simp only [Act.put, List.setIfInBounds_toArray, List.set_cons_zero, List.set_cons_succ]
        refine sink_take1 (i := 18) (d := some 58) (v := ?_) rfl rfl (by kernel_rfl) (by decide) (by kernel_rfl) (by kernel_rfl) (fun _ _ _ h => h) (Or.inl ⟨by rfl, ?_⟩) hS0 ?_
        rotate_left
        · intro wz hSw
          (try dsimp only at hSw)
          obtain ⟨g1, g2, g3, g4⟩ := hSw
          go_simp
          (try with_reducible rfl)
        try simp only [Act.put, List.setIfInBounds_toArray, List.set_cons_zero, List.set_cons_succ]
        refine sink_take1 (i := 19) (d := some 59) (v := ?_) rfl rfl (by kernel_rfl) (by decide) (by kernel_rfl) (by kernel_rfl) (fun _ _ _ h => h) (Or.inl ⟨by rfl, ?_⟩) hS0 ?_
        rotate_left
        · intro wz hSw
          (try dsimp only at hSw)
          obtain ⟨g1, g2, g3, g4⟩ := hSw
          go_simp
          (try with_reducible rfl)
        try simp only [Act.put, List.setIfInBounds_toArray, List.set_cons_zero, List.set_cons_succ]
        refine sink_take1 (i := 20) (d := some 60) (v := ?_) rfl rfl (by kernel_rfl) (by decide) (by kernel_rfl) (by kernel_rfl) (fun _ _ _ h => h) (Or.inl ⟨by rfl, ?_⟩) hS0 ?_
        rotate_left
        · intro wz hSw
          (try dsimp only at hSw)
          obtain ⟨g1, g2, g3, g4⟩ := hSw
          go_simp
          (try with_reducible rfl)
        try simp only [Act.put, List.setIfInBounds_toArray, List.set_cons_zero, List.set_cons_succ]
        refine sink_take1 (i := 21) (d := some 61) (v := ?_) rfl rfl (by kernel_rfl) (by decide) (by kernel_rfl) (by kernel_rfl) (fun _ _ _ h => h) (Or.inl ⟨by rfl, ?_⟩) hS0 ?_
        rotate_left
        · intro wz hSw
          (try dsimp only at hSw)
          obtain ⟨g1, g2, g3, g4⟩ := hSw
          go_simp
          (try with_reducible rfl)
        try simp only [Act.put, List.setIfInBounds_toArray, List.set_cons_zero, List.set_cons_succ]
        refine sink_take1 (i := 22) (d := some 62) (v := ?_) rfl rfl (by kernel_rfl) (by decide) (by kernel_rfl) (by kernel_rfl) (fun _ _ _ h => h) (Or.inl ⟨by rfl, ?_⟩) hS0 ?_
        rotate_left
        · intro wz hSw
          (try dsimp only at hSw)
          obtain ⟨g1, g2, g3, g4⟩ := hSw
          go_simp
          (try with_reducible rfl)
        try simp only [Act.put, List.setIfInBounds_toArray, List.set_cons_zero, List.set_cons_succ]
        refine sink_take1 (i := 23) (d := some 63) (v := ?_) rfl rfl (by kernel_rfl) (by decide) (by kernel_rfl) (by kernel_rfl) (fun _ _ _ h => h) (Or.inl ⟨by rfl, ?_⟩) hS0 ?_
        rotate_left
        · intro wz hSw
          (try dsimp only at hSw)
          obtain ⟨g1, g2, g3, g4⟩ := hSw
          go_simp
          (try with_reducible rfl)
        try simp only [Act.put, List.setIfInBounds_toArray, List.set_cons_zero, List.set_cons_succ]
        refine sink_take1 (i := 24) (d := some 64) (v := ?_) rfl rfl (by kernel_rfl) (by decide) (by kernel_rfl) (by kernel_rfl) (fun _ _ _ h => h) (Or.inl ⟨by rfl, ?_⟩) hS0 ?_
        rotate_left
        · intro wz hSw
          (try dsimp only at hSw)
          obtain ⟨g1, g2, g3, g4⟩ := hSw
          go_simp
          (try with_reducible rfl)
        try simp only [Act.put, List.setIfInBounds_toArray, List.set_cons_zero, List.set_cons_succ]
        refine sink_take1 (i := 25) (d := some 65) (v := ?_) rfl rfl (by kernel_rfl) (by decide) (by kernel_rfl) (by kernel_rfl) (fun _ _ _ h => h) (Or.inl ⟨by rfl, ?_⟩) hS0 ?_
        rotate_left
        · intro wz hSw
          (try dsimp only at hSw)
          obtain ⟨g1, g2, g3, g4⟩ := hSw
          go_simp
          (try with_reducible rfl)
        try simp only [Act.put, List.setIfInBounds_toArray, List.set_cons_zero, List.set_cons_succ]
        refine sink_take1 (i := 26) (d := some 66) (v := ?_) rfl rfl (by kernel_rfl) (by decide) (by kernel_rfl) (by kernel_rfl) (fun _ _ _ h => h) (Or.inl ⟨by rfl, ?_⟩) hS0 ?_
        rotate_left
        · intro wz hSw
          (try dsimp only at hSw)
          obtain ⟨g1, g2, g3, g4⟩ := hSw
          go_simp
          (try with_reducible rfl)
        try simp only [Act.put, List.setIfInBounds_toArray, List.set_cons_zero, List.set_cons_succ]
        refine sink_take1 (i := 27) (d := some 67) (v := ?_) rfl rfl (by kernel_rfl) (by decide) (by kernel_rfl) (by kernel_rfl) (fun _ _ _ h => h) (Or.inl ⟨by rfl, ?_⟩) hS0 ?_
        rotate_left
        · intro wz hSw
          (try dsimp only at hSw)
          obtain ⟨g1, g2, g3, g4⟩ := hSw
          go_simp
          (try with_reducible rfl)
        try simp only [Act.put, List.setIfInBounds_toArray, List.set_cons_zero, List.set_cons_succ]
        refine sink_take1 (i := 28) (d := some 68) (v := ?_) rfl rfl (by kernel_rfl) (by decide) (by kernel_rfl) (by kernel_rfl) (fun _ _ _ h => h) (Or.inl ⟨by rfl, ?_⟩) hS0 ?_
        rotate_left
        · intro wz hSw
          (try dsimp only at hSw)
          obtain ⟨g1, g2, g3, g4⟩ := hSw
          go_simp
          (try with_reducible rfl)
        try simp only [Act.put, List.setIfInBounds_toArray, List.set_cons_zero, List.set_cons_succ]
        refine sink_one (i := 29) (by kernel_rfl) ?_
        refine wpOp_step rfl (fun K' hK => ?_)
        have HKK := Lib.hid hK
        clear hK
        rw [if_pos (by rfl)]
        go_simp
        refine (XQ.out _ ⟨1, rfl⟩).mono ?_
        rintro e w7 ⟨rfl, hq7⟩
        have D7 := Lib.hid (drT ⟨1, rfl⟩ hq7)
        have hS7 : (fun W : World => (Instr.lookup 53 (.map (some w3.heap.size)) (.int .i64 (p : Nat)) false).run Try.prog W = .ok (.bool false) W ∧ W.cell? ⟨ab, ao + kp, none⟩ = some (.int .i64 (p0 : Nat)) ∧ W.cell? ⟨lb, lo + p0, none⟩ = some (.slice Aq mq cq) ∧ W.cell? ⟨lb, lo + p, none⟩ = some (.slice Ap np cp)) w7 := ⟨(HSet.out.drN D7.out).look p (by omega) |>.trans (by rw [HIn.out]), by rw [drC D7.out]; exact z0, by rw [drC D7.out]; exact zq, by rw [drC D7.out]; exact zp⟩
        clear hq7
        refine HKK.out _ _ ⟨Or.inr hS7, ?_⟩
        clear HKK
        try simp only [Act.put, List.setIfInBounds_toArray, List.set_cons_zero, List.set_cons_succ]
        refine sink_take1 (i := 30) (d := some 70) (v := ?_) rfl rfl (by kernel_rfl) (by decide) (by kernel_rfl) (by kernel_rfl) (fun _ _ _ h => h) (Or.inl ⟨by rfl, ?_⟩) hS7 ?_
        rotate_left
        · intro wz hSw
          (try dsimp only at hSw)
          obtain ⟨g1, g2, g3, g4⟩ := hSw
          go_simp
          (try with_reducible rfl)
        try simp only [Act.put, List.setIfInBounds_toArray, List.set_cons_zero, List.set_cons_succ]
        refine sink_take1 (i := 31) (d := some 71) (v := ?_) rfl rfl (by kernel_rfl) (by decide) (by kernel_rfl) (by kernel_rfl) (fun _ _ _ h => h) (Or.inl ⟨by rfl, ?_⟩) hS7 ?_
        rotate_left
        · intro wz hSw
          (try dsimp only at hSw)
          obtain ⟨g1, g2, g3, g4⟩ := hSw
          go_simp
          (try with_reducible rfl)
        try simp only [Act.put, List.setIfInBounds_toArray, List.set_cons_zero, List.set_cons_succ]
        refine sink_take1 (i := 32) (d := some 72) (v := ?_) rfl rfl (by kernel_rfl) (by decide) (by kernel_rfl) (by kernel_rfl) (fun _ _ _ h => h) (Or.inl ⟨by rfl, ?_⟩) hS7 ?_
        rotate_left
        · intro wz hSw
          (try dsimp only at hSw)
          obtain ⟨g1, g2, g3, g4⟩ := hSw
          go_simp
          (try with_reducible rfl)
        try simp only [Act.put, List.setIfInBounds_toArray, List.set_cons_zero, List.set_cons_succ]
        refine sink_done (by kernel_rfl) ?_
        go_wp2_with (first | (at_mapUpdate; refine wpList_setPutI _ rfl (.tmp 73) (.tmp 74) _ rfl w3.heap.size (kp + 1) _ rfl (HSet.out.drN D7.out) p rfl (by omega) rfl (by unfold maxLen; omega) ?_; intro w8 hs8 hg8; have HS8 := Lib.hid hs8; have HB8 := Lib.hid ((HB.out.trans (drB D7.out _)).grown hg8 (HB.out.trans (drB D7.out _)).size (fun j hj => by cases hj; exact Nat.le_refl _)); clear hs8 hg8))
        go_roundw
        case rel => exact ⟨(kp + 1) + 1, by omega, by go_num, by rw [TK.out]; exact HS8.out, HB8.out⟩
        case measure => simp [intOf]; omega
    · obtain rfl : k = al.length := by omega
      have e1 : (al.take al.length).reverse = al.reverse := by rw [List.take_length]
      rw [e1] at HSet
      clear e1 hlt hk
      have IN : Hid (∀ i, i < ls.length → decide (i ∈ al.reverse) = mtB (ls.getD i default) path) := by
        intro i hi
        rw [Bool.eq_iff_iff, decide_eq_true_eq, List.mem_reverse, AL.out.2]
        exact ⟨fun h => h.2, fun h => ⟨hi, h⟩⟩
      have T5 := Lib.hid (T3.out.call HB.out)
      have L5 := Lib.hid (L3.out.call HB.out)
      have N5 := Lib.hid (N3.out.call HB.out)
      clear T3 L3 N3 HB hmm
      generalize w3.heap.size = mb at *
      generalize al.reverse = NN at *
      obtain ⟨wx, hwx⟩ : ∃ wx, wx = wr := ⟨_, rfl⟩
      subst hwx
      go_wp2_with fail
      go_loopw [78] (fun i wz => ∃ j : Nat, j ≤ ls.length ∧ i = .int .i64 j ∧ Below wx.heap.size wx wz) (fun i _ => ls.length - (intOf i).toNat)
      case atStart => exact ⟨0, Nat.zero_le _, rfl, Below.refl _ _⟩
      case round =>
        obtain ⟨j, hj, rfl, hbz⟩ := hrel
        have HZ := Lib.hid hbz
        clear hbz
        by_cases hjl : j < ls.length
        · have d1 : (j : Int) < (ls.length : Int) := by omega
          obtain ⟨A5', c5', e5, _, _, hc5⟩ := (L5.out.call HZ.out).1
          simp only [Value.slice.injEq] at e5
          obtain ⟨rfl, -, rfl⟩ := e5
          obtain ⟨lb, lo, uq, hlb, hxq, hgq⟩ := hc5 _ hjl
          subst hlb
          obtain ⟨Aq, mq, cq, rfl⟩ := hgq.shape
          have XM := Lib.hid (match8 _ _ _ path wr hgq (L5.out.call HZ.out).2.1 L5.out.2.2.2.2.1 L5.out.2.2.2.2.2.1)
          have INj := Lib.hid (IN.out j hjl)
          clear hc5 hgq
          generalize mtB (ls.getD j default) path = bj at *
          have q9 : (bj != bj) = false := by simp
          go_wp2_with (first
            | (go_at_call 19; refine XM.out.mono ?_; rintro e w6 ⟨v6, rfl, hps6, hb6⟩; have B6 := Lib.hid (HZ.out.trans (hb6.mono HZ.out.size)); obtain ⟨A9, n9, c9, hv9⟩ : ∃ A n c, v6 = .slice A n c := (by obtain ⟨A, c, e, _⟩ := hps6; exact ⟨_, _, _, e⟩); subst hv9; clear hps6 hb6)
            | (at_lookup; refine wpList_setLookI _ (by kernel_rfl) (.tmp 91) (.tmp 92) rfl mb al.length NN rfl (HSet.out.call B6.out) j rfl (by omega) ?_; rw [INj.out]))
          go_roundw
          case rel => exact ⟨j + 1, by omega, by go_num, B6.out⟩
          case measure => simp [intOf]; omega
        · obtain rfl : j = ls.length := by omega
          clear hjl hj
          have T7 := Lib.hid (T5.out.call HZ.out)
          have L7 := Lib.hid (L5.out.call HZ.out)
          have N7 := Lib.hid (N5.out.call HZ.out)
          clear T5 L5 N5 HZ IN HSet
          have XF := Lib.hid (trieFind T7.out _ path L7.out.2.1 L7.out.2.2.2.2.1 L7.out.2.2.2.2.2.1 AL.out)
          rcases al with _ | ⟨i0, al⟩
          · have XF : Hid (Calls Try.prog 7 #[.pointer (some ⟨T, 0, none⟩), .slice A6 n6 c6] wr fun e w' => ∃ v, e = .returned (.tuple #[.int .i64 (-1), v, .bool false]) ∧ Ps w' v [] ∧ Below wr.heap.size wr w') := XF.out
            go_wp2_with (first
              | (go_at_call 7; refine XF.out.mono ?_; rintro e w8 ⟨v8, rfl, hps8, hb8⟩; have L8 := Lib.hid (L7.out.call hb8); obtain ⟨A9, c9, hv9⟩ : ∃ A c, v8 = .slice A 0 c := (by obtain ⟨A, c, e, _⟩ := hps8; exact ⟨_, _, e⟩); subst hv9; clear hps8 hb8)
              | (go_at_call 3; refine (trieRuns_any _).mono ?_; rintro e w9 ⟨rfl, hb9⟩; have L9 := Lib.hid (L8.out.call hb9); clear hb9))
            go_ret
            exact ⟨rfl, L9.out.2.2.2.2.2.2⟩
          · have XF : Hid (Calls Try.prog 7 #[.pointer (some ⟨T, 0, none⟩), .slice A6 n6 c6] wr fun e w' => ∃ v, e = .returned (.tuple #[.int .i64 (i0 : Nat), v, .bool true]) ∧ Ps w' v (mtL (ls.getD i0 default) path) ∧ Below wr.heap.size wr w') := XF.out
            have hi0 : i0 < ls.length := al_lt (k := 0) AL.out (by simp)
            have d2 : (i0 : Int) < (ls.length : Int) := by omega
            have d3 : ((al.length : Int) + 1 == 0) = false := by simp; omega
            have d4 : (0 : Int) < (al.length : Int) + 1 := by omega
            have d5 : ((i0 : Int) == (i0 : Int)) = true := by simp
            have LEN : Hid ((mtL (ls.getD i0 default) path).length ≤ 1000000000) := mt_len _ _
            obtain ⟨A8', c8', e8, _, _, hc8⟩ := N7.out
            simp only [Value.slice.injEq] at e8
            obtain ⟨rfl, -, rfl⟩ := e8
            obtain ⟨ab, ao, rfl, hx8⟩ := hc8 0 (by simp)
            have hx8 : wr.cell? ⟨ab, ao, none⟩ = some (.int .i64 (i0 : Nat)) := hx8
            have HX8 := Lib.hid hx8
            clear hc8 hx8
            obtain ⟨A5', c5', e5, _, _, hc5⟩ := L7.out.1
            simp only [Value.slice.injEq] at e5
            obtain ⟨rfl, -, rfl⟩ := e5
            obtain ⟨lb, lo, uq, hlb, hxq, hgq⟩ := hc5 _ hi0
            subst hlb
            obtain ⟨Aq, mq, cq, rfl⟩ := hgq.shape
            have HXQ := Lib.hid hxq
            have XM := Lib.hid (fun W (hW : Below wr.heap.size wr W) => match8 _ _ _ path W (hgq.call hW) (L7.out.call hW).2.1 L7.out.2.2.2.2.1 L7.out.2.2.2.2.2.1)
            clear hc5 hgq hxq
            simp only [List.length_cons] at *
            go_wp2_with (first
              | (go_at_call 7; refine XF.out.mono ?_; rintro e w8 ⟨v8, rfl, hps8, hb8⟩; have B8 := Lib.hid hb8; have P8 := Lib.hid hps8; obtain ⟨A9, n9, c9, hv9⟩ : ∃ A n c, v8 = .slice A n c := (by obtain ⟨A, c, e, _⟩ := hps8; exact ⟨_, _, _, e⟩); subst hv9; have xa : w8.cell? ⟨ab, ao, none⟩ = some (.int .i64 (i0 : Nat)) := (by rw [hb8.cell (World.block_lt_of_cell? _ _ HX8.out)]; exact HX8.out); have xq : w8.cell? ⟨lb, lo + i0, none⟩ = some (.slice Aq mq cq) := (by rw [hb8.cell (World.block_lt_of_cell? _ _ HXQ.out)]; exact HXQ.out); clear hps8 hb8)
              | (go_at_call 19; refine (XM.out _ B8.out).mono ?_; rintro e wa ⟨va, rfl, hpsa, hba⟩; have PA := Lib.hid hpsa; have BA := Lib.hid (B8.out.trans (hba.mono B8.out.size)); have P9 := Lib.hid (P8.out.call hba); obtain ⟨Ab, nb, cb, hvb⟩ : ∃ A n c, va = .slice A n c := (by obtain ⟨A, c, e, _⟩ := hpsa; exact ⟨_, _, _, e⟩); subst hvb; have xb : wa.cell? ⟨ab, ao, none⟩ = some (.int .i64 (i0 : Nat)) := (by rw [BA.out.cell (World.block_lt_of_cell? _ _ HX8.out)]; exact HX8.out); clear hpsa hba xa xq)
              | (go_at_call 8; refine (sameP _ _ _ _ _ P9.out PA.out LEN.out).mono ?_; rintro e wb ⟨rfl, hbb⟩; have BB := Lib.hid (BA.out.trans (hbb.mono BA.out.size)); rw [decide_eq_true rfl]; clear hbb)
              | (go_at_call 3; refine (trieRuns_any _).mono ?_; rintro e wd ⟨rfl, hbd⟩; have BD := Lib.hid (BB.out.trans (hbd.mono BB.out.size)); clear hbd))
            go_ret
            exact ⟨rfl, (L7.out.call BD.out).2.2.2.2.2.2⟩
end Go.Proofs.Ytgiepgbjkkhniaa
