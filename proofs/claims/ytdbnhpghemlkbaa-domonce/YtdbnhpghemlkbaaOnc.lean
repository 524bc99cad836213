/-
  The walk of DomOnce.
-/
import Derived.Test.YtdbnhpghemlkbaaWrk
import Derived.Test.YtdbnhpghemlkbaaAin
import Derived.Deep.CutBlock
import Derived.Deep.DeepCutAuto
import Derived.Laws.BytesArg
namespace Go.Proofs.Ytdbnhpghemlkbaa
open Go.RowKit Go.PlainAid Go.Maps Dm
set_option maxRecDepth 100000

theorem wpList_cat {ops : Array Oper} {rest : List Oper} {o : Oper} {a : Act} {Q : Exit → Act → World → Prop} (w : World) (hgd : o.guard = none) (s x : Operand) (ho : o.op = .call { callee := .builtin .append, args := #[s, x], argTypes := #[51, 51] }) (B : Nat) (v : Value) (xs : List Nat) (hs : a.eval s = v)
    (hown : w.ownsRow B 3 1 v xs.length (niC xs)) (hB : B ≤ w.heap.size) (sv : Value) (ys : List Nat) (hx : a.eval x = sv) (hr : Ni w sv ys) (hn : xs.length ≤ 100000000) (hm : ys.length ≤ 100000000)
    (h : ∀ v' w', w'.ownsRow B 3 1 v' (xs ++ ys).length (niC (xs ++ ys)) → w.grownBy w' v.ownBlock → (v'.ownBlock = v.ownBlock ∨ v'.ownBlock = some w.heap.size) → wpList Try.prog ops Q rest (a.put o.dst v') w') : wpList Try.prog ops Q (o :: rest) a w :=
  wpList_plain hgd fun _ hK => wp_cat w s x ho B v xs hs hown hB sv ys hx hr hn hm fun v' w' h2 h3 h4 => hK _ _ (h v' w' h2 h3 h4)
section
variable {w0 w w' : World} {D : Nat} {s : St} {mb : Nat} {V R st ks : List Nat} {rv sv kv : Value}
theorem W5.start {ro : Ros} (h : Mine mP ro D s w0.heap.size w0 w) : W5 w0 D s w.heap.size [] (.slice none 0 0) [] (.slice none 0 0) [] (.slice none 0 0) [] (w.alloc (.map #[] 0)) := by
  have h' := h.call ((Below.refl _ w).alloc (Nat.le_refl _) (.map #[] 0))
  have hz : ro w.heap.size = 0 := by
    by_cases e : ro w.heap.size = 0
    · exact e
    · have := h.1.lt _ e
      omega
  exact ⟨⟨ro, h', hz, (fun g e => by cases e), (fun g e => by cases e), (fun g e => by cases e)⟩, h.2.2.2, mp_new w, World.ownsRow_nil _ _ _ _, World.ownsRow_nil _ _ _ _, World.ownsRow_nil _ _ _ _, (fun e => by cases e), (fun e => by cases e), (fun e => by cases e), (fun g e => by cases e), (fun g e => by cases e)⟩
theorem W5.roots (h : W5 w0 D s mb V rv R sv st kv ks w) : W5 w0 D s mb V sv st (.slice none 0 0) [] (.slice none 0 0) [] w := by
  obtain ⟨ro, h1, h2, h3, h4, h5⟩ := h.dom
  exact ⟨⟨ro, h1, h2, h4, (fun g e => by cases e), (fun g e => by cases e)⟩, h.lo, h.mp, h.t, World.ownsRow_nil _ _ _ _, World.ownsRow_nil _ _ _ _, h.nt, (fun e => by cases e), (fun e => by cases e), (fun g _ e => by cases e), (fun g e => by cases e)⟩
theorem W5.none_ (h : W5 w0 D s mb V rv R sv st kv ks w) : W5 w0 D s mb V rv R (.slice none 0 0) [] (.slice none 0 0) [] w := by
  obtain ⟨ro, h1, h2, h3, h4, h5⟩ := h.dom
  exact ⟨⟨ro, h1, h2, h3, (fun g e => by cases e), (fun g e => by cases e)⟩, h.lo, h.mp, h.r, World.ownsRow_nil _ _ _ _, World.ownsRow_nil _ _ _ _, h.nr, (fun e => by cases e), (fun e => by cases e), (fun g _ e => by cases e), (fun g e => by cases e)⟩
theorem W5.nok (h : W5 w0 D s mb V rv R sv st kv ks w) : W5 w0 D s mb V rv R sv st (.slice none 0 0) [] w := by
  obtain ⟨ro, h1, h2, h3, h4, h5⟩ := h.dom
  exact ⟨⟨ro, h1, h2, h3, h4, (fun g e => by cases e)⟩, h.lo, h.mp, h.r, h.t, World.ownsRow_nil _ _ _ _, h.nr, h.nt, (fun e => by cases e), h.rt, (fun g e => by cases e)⟩
theorem W5.mine (h : W5 w0 D s mb V rv R sv st kv ks w) : ∃ ro, Dom mP ro w D s := by
  obtain ⟨ro, h1, _⟩ := h.dom
  exact ⟨ro, h1.1⟩
end
theorem ni_cap' {w : World} {A : Option Addr} {c n : Nat} {l : List Nat} (h : Ni w (.slice A n c) l) : n ≤ c := by
  obtain ⟨A', c', e, h2, _⟩ := h
  cases e
  exact h2
theorem grown_below {w w' : World} (h : w.grownBy w' none) : Below w.heap.size w w' := ⟨h.os, h.tape, h.output, h.size, fun i hi => h.block i hi (by simp)⟩
/-- a new row of one -/
theorem row_one (w : World) (x : Nat) : (w.alloc (.cells #[.int .i64 (x : Int)] 3 (0, 0))).ownsRow w.heap.size 3 1 (.slice (some ⟨w.heap.size, 0, none⟩) 1 1) [x].length (niC [x]) :=
  World.ownsRow_lit w #[.int .i64 (x : Int)] 1 (Nat.le_refl _) (by decide) rfl

set_option maxHeartbeats 12800000 in
theorem once5 (v : Value) (l : Nat × (Nat → Ak)) (w : World) (h0 : Aks w v l.1 l.2) :
    Calls Try.prog 5 #[v] w fun e w' => e = .returned (.bool true) ∧ Below w.heap.size w w' := by
  obtain ⟨n, f⟩ := l
  replace h0 : Aks w v n f := h0
  obtain ⟨A, c, rfl, -, -⟩ := id h0
  have I0 := Lib.hid h0
  clear h0
  go_enter Try.func5, Try.ntmps5
  go_wp2_with fail
  refine (new7 w).mono ?_
  rintro e w1 he
  obtain ⟨D, ro1, rfl, M1⟩ := he.mine
  have G1 : Hid (Gs w D 1 w1) := ⟨_, _, M1, inv_new, fit_new, Nat.le_refl _⟩
  clear he M1
  go_upto_block 0 with fail
  go_cut [4] (fun p4 wz => ∃ (T : Nat), T ≤ 41 ∧ p4 = .int .i64 T ∧ Hid (Gs w D 41 wz))
  case first =>
    go_wp2_with fail
    go_loopw [5, 4] (fun p5 p4 wr => ∃ (j T : Nat), j ≤ 40 ∧ T ≤ 1 + j ∧ p5 = .int .i64 j ∧ p4 = .int .i64 T ∧ Hid (Gs w D (1 + j) wr)) (fun p _ _ => 40 - (intOf p).toNat)
    case atStart => exact ⟨0, 1, by decide, by decide, rfl, rfl, G1.out⟩
    case round =>
      clear G1
      obtain ⟨j, T, hj, hT, rfl, rfl, G⟩ := hrel
      by_cases hjn : j < n
      · have d0 : (j : Int) < (n : Int) := by omega
        by_cases hj4 : j < 40
        · have d1 : (j : Int) < 40 := by omega
          obtain ⟨A', c', eA, _, hA⟩ := I0.out.call G.out.bw
          cases eA
          obtain ⟨b, o, rfl, c0, c1, c2, c3, c4⟩ := hA j hjn
          clear hA
          generalize f j = q at *
          have GA := Lib.hid (G.out.call ((Below.refl _ wr).alloc (Nat.le_refl _) (.cells #[.int .i64 q.k, .int .i64 q.a, .int .i64 q.b, .int .i64 q.t, .string q.s] 41 (0, 0))))
          go_wp2_with fail
          all_goals first
            | (refine (gs_el GA.out (by omega) _ _).mono ?_
               rintro e w7 ⟨k, hk, rfl, G7⟩
               replace G7 := Lib.hid G7
               clear c0 c1 c2 c3 c4
               go_wp2_with fail
               go_roundw
               case rel => exact ⟨j + 1, max T k, by omega, by omega, by go_num, by congr 1; omega, G7.out.mono (by omega)⟩
               case measure => simp [intOf]; omega)
            | ((first
                 | refine (gs_ins GA.out (by omega) _ _ _).mono ?_
                 | refine (gs_det GA.out (by omega) _).mono ?_
                 | refine (gs_free GA.out (by omega) _).mono ?_)
               rintro e w7 ⟨b7, rfl, G7⟩
               replace G7 := Lib.hid G7
               clear c0 c1 c2 c3 c4
               go_wp2_with fail
               go_roundw
               case rel => exact ⟨j + 1, T, by omega, by omega, by go_num, rfl, G7.out.mono (by omega)⟩
               case measure => simp [intOf]; omega)
            | exact ⟨⟨j + 1, T, by omega, by omega, by go_num, rfl, GA.out.mono (by omega)⟩, by simp [intOf]; omega⟩
        · have d1 : ¬ (j : Int) < 40 := by omega
          go_wp2_with fail
          go_meet
          exact ⟨T, by omega, rfl, G.out.mono (by omega)⟩
      · have d0 : ¬ (j : Int) < (n : Int) := by omega
        go_wp2_with fail
        go_meet
        exact ⟨T, by omega, rfl, G.out.mono (by omega)⟩
  case rest =>
    obtain ⟨T, hT, rfl, G⟩ := hcut
    clear G1
    have dT : ¬ (100 : Int) < (T : Int) := by omega
    obtain ⟨s, ro, M, hv, hf, ht⟩ := G.out
    have HV := Lib.hid hv
    have HF := Lib.hid hf
    have A0 := Lib.hid (W5.start M)
    clear G M hv hf
    obtain ⟨all, hall⟩ := pres_ex HV.out (1 :: s.loose)
    obtain ⟨ha1, ha2, ha3⟩ := HV.out.once hall
    have hce := count_eq HV.out
    have hal : all.length ≤ 41 := by omega
    have HA : Hid (all.Nodup ∧ (∀ j, j ∈ all → (s.nd j).live = true) ∧ (all.length : Int) = (s.top : Int) - s.freed.length) := ⟨ha1, fun j hj => (ha2 j).1 hj, by omega⟩
    have hll : s.loose.length ≤ 41 := by
      have := pres_len hall
      simp only [List.length_cons] at this
      omega
    have HP := Lib.hid hall
    have HRK : Hid (∀ r ∈ 1 :: s.loose, r ≤ 41) := by
      intro r hr
      rcases List.mem_cons.1 hr with e | e
      · omega
      · have := HV.out.live_pos (HV.out.mem_loose.1 e).1
        omega
    clear ha1 ha2 ha3 hce hall
    have hmm := @run_makeMap Try.prog
    go_wp2_with fail
    refine (root11 _ _).mono ?_
    rintro e wq ⟨rfl, rfl⟩
    have A1 := Lib.hid (A0.out.newt ((Below.refl _ _).alloc (Nat.le_refl _) _) (row_one _ 1))
    have hsz : (wc.alloc (.map #[] 0)).heap.size = wc.heap.size + 1 := by simp
    rw [hsz] at A1
    clear A0 hmm hsz
    go_wp2_with fail
    generalize (World.alloc _ _).alloc _ = w2 at *
    generalize wc.heap.size = mb at *
    obtain ⟨ro2, D2⟩ := A1.out.mine
    refine (loose28 w2 D2 HV.out (by omega)).mono ?_
    rintro e w3 ⟨v3, rfl, h3, hb3⟩
    have A2 := Lib.hid (A1.out.newk hb3 h3)
    clear A1 D2 h3 hb3
    go_wp2_with (at_builtin; refine wpList_cat _ rfl _ _ rfl w.heap.size (.slice (some ⟨mb + 1, 0, none⟩) 1 1) [1] rfl A2.out.t A2.out.size _ s.loose rfl (owns_ni A2.out.k) (by decide) (by omega) ?_; intro v4 w4 h4 hg4 hv4; have A4 := Lib.hid (A2.out.push h4 hg4 hv4).roots; obtain ⟨RA, rc, rfl⟩ := owns_shape h4; clear h4 hg4 hv4; have hrl : ([1] ++ s.loose).length ≤ 42 := (by simp; omega); replace HP : Hid (Pres s.nd ([1] ++ s.loose) all) := HP.out; replace HRK : Hid (∀ r ∈ [1] ++ s.loose, r ≤ 41) := HRK.out; clear A2 hll; generalize [1] ++ s.loose = R at *; generalize hRn : R.length = rn at *; replace hRn := Lib.hid hRn)
    go_loopw [79, 8] (fun p79 p8 wr => ∃ (i : Nat) (V L1 L2 : List Nat), i ≤ rn ∧ V.length ≤ 41 ∧ p79 = .int .i64 i ∧ p8 = .int .i64 V.length ∧ Hid (Pres s.nd (R.drop i) L2 ∧ V.Perm L1 ∧ L1 ++ L2 = all) ∧ Hid (W5 w D s mb V (.slice RA rn rc) R (.slice none 0 0) [] (.slice none 0 0) [] wr)) (fun p _ _ => rn - (intOf p).toNat)
    case atStart => exact ⟨0, [], [], all, Nat.zero_le _, by decide, rfl, rfl, ⟨HP.out, List.Perm.refl _, rfl⟩, A4.out⟩
    case round =>
      clear A4 HP
      obtain ⟨i, V, L1, L2, hi, hV, rfl, rfl, HL, A5⟩ := hrel
      by_cases hin : i < rn
      · have d0 : (i : Int) < (rn : Int) := by omega
        have hiR : i < R.length := by rw [hRn.out]; exact hin
        have hcr : ∃ b o, RA = some ⟨b, o, none⟩ ∧ wr.cell? ⟨b, o + i, none⟩ = some (.int .i64 (R.getD i 0 : Nat)) := by
          obtain ⟨A', c', eA, _, _, hA⟩ := owns_ni A5.out.r
          cases eA
          exact hA i hiR
        obtain ⟨b, o, rfl, hc⟩ := hcr
        have hdr : R.drop i = [R.getD i 0] ++ R.drop (i + 1) := by
          rw [List.drop_eq_getElem_cons hiR]
          simp [List.getD, hiR]
        obtain ⟨HL1, HL2, HL3⟩ := HL.out
        rw [hdr] at HL1
        obtain ⟨Lr, L2', hp1, hp2, rfl⟩ := pres_parts HL1
        have HQ : Hid (Pres s.nd [R.getD i 0] Lr ∧ (V ++ Lr).Perm (L1 ++ Lr)) := ⟨hp1, List.Perm.append_right Lr HL2⟩
        have HQ2 : Hid (Pres s.nd (R.drop (i + 1)) L2' ∧ (L1 ++ Lr) ++ L2' = all) := ⟨hp2, by rw [List.append_assoc]; exact HL3⟩
        have hr41 : R.getD i 0 ≤ 41 := HRK.out _ (by simp [List.getD, hiR])
        clear HL HL1 HL2 HL3 hp1 hp2 hdr hiR
        generalize L1 ++ Lr = tgt at *
        generalize R.getD i 0 = r at *
        go_wp2_with fail
        have A6 := Lib.hid (A5.out.newt ((Below.refl _ _).alloc (Nat.le_refl _) _) (row_one _ r))
        clear hc A5
        have HT : Hid (tgt.Nodup ∧ ∀ x ∈ tgt, (s.nd x).live = true ∧ x ≤ 41) := by
          have h := HQ2.out.2
          refine ⟨?_, fun x hx => ?_⟩
          · have := HA.out.1
            rw [← h] at this
            exact (List.nodup_append.1 this).1
          · have hl := HA.out.2.1 x (by rw [← h]; simp [hx])
            exact ⟨hl, by have := (HV.out.live_pos hl).2; omega⟩
        have htl : tgt.length ≤ 41 := by
          have := congrArg List.length HQ2.out.2
          simp only [List.length_append] at this
          omega
        generalize wr.alloc _ = w6 at *
        generalize wr.heap.size = sb at *
        go_loopw [11, 8] (fun p11 p8 wr => ∃ (k : Nat) (V st Lq : List Nat) (SA : Option Addr) (sc : Nat), k ≤ 41 ∧ V.length ≤ 41 ∧ p11 = .slice SA k sc ∧ p8 = .int .i64 V.length ∧ Hid (st.length = k) ∧ Hid (Pres s.nd st Lq ∧ (V ++ Lq).Perm tgt) ∧ Hid (W5 w D s mb V (.slice (some ⟨b, o, none⟩) rn rc) R (.slice SA k sc) st (.slice none 0 0) [] wr)) (fun _ p8 _ => 100 - (intOf p8).toNat)
        case atStart => exact ⟨1, V, [r], Lr, some ⟨sb, 0, none⟩, 1, by decide, hV, rfl, rfl, rfl, HQ.out, A6.out⟩
        case round =>
          clear A6 HQ hV
          obtain ⟨k, V, st, Lq, SA, sc, hk, hV, rfl, rfl, hsk, HQ, A7⟩ := hrel
          have dV : (V.length : Int) < 200 := by omega
          by_cases hk0 : 0 < k
          · obtain ⟨m, rfl⟩ : ∃ m, k = m + 1 := ⟨k - 1, by omega⟩
            have dk : (0 : Int) < (m : Int) + 1 := by omega
            obtain ⟨init, x, hst⟩ : ∃ init x, st = init ++ [x] := by
              rcases List.eq_nil_or_concat st with e | ⟨a, b, e⟩
              · have := hsk.out
                rw [e] at this
                cases this
              · exact ⟨a, b, by simpa using e⟩
            subst hst
            have him : init.length = m := by have := hsk.out; simp at this; exact this
            obtain ⟨L', hd1, hd2, hd3⟩ := dfs_step HQ.out.1 HQ.out.2
            have hxt : x ∈ tgt := HQ.out.2.mem_iff.1 (by simp [hd3])
            have hxV : Hid (x ∉ V) := by
              have := (HQ.out.2.nodup_iff).2 HT.out.1
              exact fun e => (List.nodup_append.1 this).2.2 _ e _ hd3 rfl
            have hx41 := (HT.out.2 x hxt).2
            have hkl : init.length + (s.nd x).kids.length ≤ 41 ∧ V.length + 1 ≤ 41 := by
              have h1 := pres_len hd1
              have h2 := hd2.length_eq
              simp only [List.length_append, List.length_cons] at h1 h2
              omega
            have HQ3 : Hid (Pres s.nd (init ++ (s.nd x).kids) L' ∧ (x :: V ++ L').Perm tgt) := ⟨hd1, hd2⟩
            have hcr : ∃ b o, SA = some ⟨b, o, none⟩ ∧ wr.cell? ⟨b, o + m, none⟩ = some (.int .i64 (x : Nat)) := by
              obtain ⟨A', c', eA, _, _, hA⟩ := owns_ni A7.out.t
              injection eA with e1 e2 e3
              subst e1
              have := hA init.length (by simp)
              simpa [List.getD, him] using this
            obtain ⟨sb2, so, rfl, hc⟩ := hcr
            have A8 := A7.out.pop init x rfl
            rw [him] at A8 hkl
            replace A8 := Lib.hid A8
            obtain ⟨Dm, hown, hMp⟩ := A8.out.mp
            have hwf := wf_nat x (by omega)
            have h0 : Dm.atKey (.int .i64 (x : Int)) (.lit (.int .i64 0)) = .lit (.int .i64 0) := by
              have := hMp.2.1 x (by omega)
              rw [if_neg hxV.out] at this
              exact this
            have hmc : m + 1 ≤ sc := by
              have := ni_cap' (owns_ni A7.out.t)
              exact this
            clear A7 HQ hsk hd1 hd2 hd3 hxt
            go_wp2_with (first | (at_lookup; refine wpList_lookup_own_int _ rfl _ _ 50 rfl 3 3 .i64 law3 Try.underlying50 Try.underlying3 (zero3 _) mb _ Dm rfl hown _ _ rfl (keyOf_int_mk Try.underlying3 hwf) ?_; intro cv hat hwc; obtain rfl : cv = 0 := (by rw [h0] at hat; injection hat with hat; injection hat with _ hat; exact hat.symm)) | (at_mapUpdate; refine wpList_mapUpdate_own _ rfl _ _ _ 50 rfl 3 3 law3 Try.underlying50 _ mb _ Dm rfl hown (by unfold maxLen; omega) _ _ _ rfl rfl (keyOf_int_mk Try.underlying3 hwf) _ [] (plainElem_int Try.underlying3 (by decide)) ?_; intro w7 hown7 hg7))
            have A9 := Lib.hid (A8.out.map (V' := x :: V) hg7 ⟨_, hown7, hMp.put (hown.tidy law3) (by omega) hxV.out⟩)
            clear hown hMp hwf h0 hat hwc hown7 hg7 A8 hxV hc
            obtain ⟨ro9, M9⟩ := A9.out.mine
            have hkk : (ndI s (x : Int)).kids = (s.nd x).kids := by unfold ndI; rw [if_neg (by omega), Int.toNat_natCast]
            refine (kids29 x w7 M9 HV.out (by rw [hkk]; omega)).mono ?_
            rintro e w10 ⟨v10, rfl, h10, hb10⟩
            rw [hkk] at h10
            have A10 := Lib.hid (A9.out.newk hb10 h10)
            obtain ⟨KA, kc, rfl⟩ := owns_shape h10
            have HKP : Hid (∀ k, k ∈ (s.nd x).kids → (s.nd k).par = x ∧ k ≤ 41) := fun k hk => ⟨(HV.out.down x k hk).1, by have := (HV.out.live_pos (HV.out.down x k hk).2).2; omega⟩
            clear A9 M9 hkk h10 hb10
            obtain ⟨hkl1, hkl2⟩ := hkl
            generalize (s.nd x).kids = ks at *
            generalize hkn : ks.length = kn at *
            replace hkn := Lib.hid hkn
            go_wp2_with fail
            go_loopw [113, 11] (fun p113 p11 wr => ∃ (j : Nat) (SA : Option Addr) (sc : Nat), j ≤ kn ∧ p113 = .int .i64 j ∧ p11 = .slice SA (m + j) sc ∧ Hid (W5 w D s mb (x :: V) (.slice (some ⟨b, o, none⟩) rn rc) R (.slice SA (m + j) sc) (init ++ ks.take j) (.slice KA kn kc) ks wr)) (fun p _ _ => kn - (intOf p).toNat)
            case atStart => exact ⟨0, some ⟨sb2, so, none⟩, sc, Nat.zero_le _, rfl, rfl, by rw [List.take_zero, List.append_nil]; exact A10.out⟩
            case round =>
              clear A10 hmc
              obtain ⟨j, SA, sc, hj, rfl, rfl, A11⟩ := hrel
              by_cases hjk : j < kn
              · have d9 : (j : Int) < (kn : Int) := by omega
                have hjl : j < ks.length := by rw [hkn.out]; exact hjk
                have hcr : ∃ b o, KA = some ⟨b, o, none⟩ ∧ wr.cell? ⟨b, o + j, none⟩ = some (.int .i64 (ks.getD j 0 : Nat)) := by
                  obtain ⟨A', c', eA, _, _, hA⟩ := owns_ni A11.out.k
                  injection eA with e1 e2 e3
                  subst e1
                  exact hA j hjl
                have htk : init ++ ks.take j ++ [ks.getD j 0] = init ++ ks.take (j + 1) := by
                  rw [List.take_add_one, List.append_assoc]
                  simp [List.getD, hjl]
                have hkp := HKP.out (ks.getD j 0) (by simp [List.getD, hjl])
                have hln : (init ++ ks.take (j + 1)).length = m + (j + 1) := by
                  rw [List.length_append, List.length_take, him, hkn.out]
                  omega
                have hln0 : (init ++ ks.take j).length ≤ 100 := by
                  rw [List.length_append, List.length_take, him, hkn.out]
                  omega
                obtain ⟨kb, ko, rfl, hc⟩ := hcr
                generalize ks.getD j 0 = k at *
                have hpar : Hid ((ndI s (k : Int)).par = x) := by
                  have e : ndI s (k : Int) = s.nd k := by unfold ndI; rw [if_neg (by omega), Int.toNat_natCast]
                  rw [Hid, e]
                  exact hkp.1
                obtain ⟨ro9, M9⟩ := A11.out.mine
                go_wp2_with fail
                refine (parent30 k wr M9 HV.out).mono ?_
                rintro e w12 ⟨rfl, hb12⟩
                rw [hpar.out]
                have A13 := Lib.hid ((A11.out.call hb12).call ((Below.refl _ w12).alloc (Nat.le_refl _) (.cells #[.int .i64 (k : Int)] 3 (0, 0))))
                have N13 : Hid (Ni (w12.alloc (.cells #[.int .i64 (k : Int)] 3 (0, 0))) (.slice (some ⟨w12.heap.size, 0, none⟩) 1 1) [k]) := ni_one (blk_new w12 _)
                clear M9 hb12 A11 hc
                go_wp2_with (at_builtin; go_loud (refine wpList_cat _ rfl _ _ rfl w.heap.size (.slice SA (m + j) sc) (init ++ ks.take j) rfl A13.out.t A13.out.size _ [k] rfl N13.out (by omega) (by simp) ?_); intro v14 w14 h14 hg14 hv14; rw [htk] at h14; have A14 := Lib.hid (A13.out.push h14 hg14 hv14); obtain ⟨SA2, sc2, rfl⟩ := owns_shape h14; rw [hln] at A14 ⊢; clear h14 hg14 hv14 A13 N13)
                go_roundw
                case rel => exact ⟨j + 1, SA2, sc2, by omega, by go_num, rfl, A14.out⟩
                case measure => simp [intOf]; omega
              · have d9 : ¬ (j : Int) < (kn : Int) := by omega
                obtain rfl : j = kn := by omega
                go_wp2_with fail
                go_roundw
                case rel =>
                  refine ⟨m + j, x :: V, init ++ ks, L', SA, sc, by omega, by rw [List.length_cons]; omega, rfl, by rw [List.length_cons]; go_num, ?_, HQ3.out, ?_⟩
                  · rw [Hid, List.length_append, him, hkn.out]
                  · have h := A11.out.nok
                    rw [← hkn.out, List.take_length, hkn.out] at h
                    exact h
                case measure => simp [intOf]; omega
          · have dk : ¬ (0 : Int) < (k : Int) := by omega
            obtain rfl : k = 0 := by omega
            go_wp2_with fail
            go_roundw
            case rel =>
              have hst : st = [] := List.eq_nil_of_length_eq_zero hsk.out
              subst hst
              have h1 := HQ.out
              cases h1.1
              refine ⟨i + 1, V, tgt, L2', by omega, hV, by go_num, rfl, ⟨HQ2.out.1, by simpa using h1.2, HQ2.out.2⟩, A7.out.none_⟩
            case measure => simp [intOf]; omega
      · have d0 : ¬ (i : Int) < (rn : Int) := by omega
        obtain ⟨HL1, HL2, HL3⟩ := HL.out
        have hVp : V.Perm all := by
          have e : R.drop i = [] := List.drop_eq_nil_of_le (by rw [hRn.out]; omega)
          rw [e] at HL1
          cases HL1
          rw [List.append_nil] at HL3
          rw [← HL3]
          exact HL2
        have HW : Hid (∀ x, x ∈ V → (s.nd x).live = true ∧ x ≤ 41 ∧ 1 ≤ x) := fun x hx => by
          have hl := HA.out.2.1 x (hVp.mem_iff.1 hx)
          have := HV.out.live_pos hl
          exact ⟨hl, by omega, this.1⟩
        have HC : Hid ((s.top : Int) - s.freed.length = (V.length : Int)) := by
          have h1 := HA.out.2.2
          rw [← hVp.length_eq] at h1
          exact h1.symm
        obtain ⟨ro5, M5, hz5, _⟩ := A5.out.dom
        obtain ⟨Dm, hown, hMp⟩ := A5.out.mp
        have HD := Lib.hid hMp
        have hlo := Lib.hid A5.out.size
        have hrb : Hid (ro5 wr.heap.size = 0) := by
          by_cases e : ro5 wr.heap.size = 0
          · exact e
          · have := M5.1.lt _ e
            omega
        clear HL HL1 HL2 HL3 hVp A5 hMp HA HRK hRn
        go_wp2_with (at_range; refine wpList_range_own _ rfl _ 50 rfl 3 3 law3 Try.underlying50 _ mb V.length Dm rfl hown ?_; intro w20 hrg0 hg0 hs0)
        (try go_frame)
        have M20 := Lib.hid (M5.call (grown_below hg0))
        generalize wr.heap.size = rb at *
        clear hown M5 hg0 hs0
        go_loopw [15] (fun _ wz => ∃ (left : Lit → Bool) (cnt : Nat), Hid (wz.ranges Try.prog 3 (plainElem Try.prog 3) mb rb V.length Dm left cnt ∧ (∀ kl, left kl = true → ∃ x ∈ V, kl = .int .i64 (x : Int))) ∧ Hid (∃ ro, Mine mP ro D s w.heap.size w wz ∧ ro rb = 0 ∧ w.heap.size ≤ rb)) (fun _ wz => wz.rangeLeft mb rb)
        case atStart => exact ⟨Maps.has Dm, Maps.size Dm, ⟨hrg0, HD.out.2.2⟩, ⟨ro5, M20.out, hrb.out, hlo.out⟩⟩
        case round =>
          clear M20 hrg0 hrb hlo hz5
          obtain ⟨left, cnt, HR, HM⟩ := hrel
          obtain ⟨hrg, hlf⟩ := HR.out
          replace hlf := Lib.hid hlf
          clear HR
          obtain ⟨ro6, M6, hz6, hlo6⟩ := HM.out
          clear HM
          replace M6 := Lib.hid M6
          replace hz6 := Lib.hid hz6
          replace hlo6 := Lib.hid hlo6
          go_wp2_with (at_next; refine wpList_next_ranges_ii _ rfl _ rfl 3 3 .i64 .i64 law3 Try.underlying3 Try.underlying3 mb rb V.length _ _ _ rfl hrg ?_ ?_)
          · intro hc0 hl0
            clear hlf
            have hlenm : (Builtin.len_ #[50] 3 #[.map (some mb)]).run Try.prog wr = .ok (.int .i64 (V.length : Int)) wr := by
              have h := hrg.owns.len (t := 50) (e := 3) Try.underlying50 3
              rw [HD.out.1] at h
              exact h
            have M7 := M6.out.1
            clear hrg hz6 hlo6
            go_wp2_with fail
            refine (count16 wr M7 (by omega) (by have := count_eq HV.out; omega)).mono ?_
            rintro e w22 ⟨rfl, hb22⟩
            rw [HC.out]
            have M8 := Lib.hid (M6.out.call hb22)
            clear hlenm M7 M6 hb22
            go_wp2_with fail
            refine (runs3 w22).mono ?_
            rintro e w23 ⟨rfl, hb23⟩
            have BE := Lib.hid (M8.out.2.2.1.trans (hb23.mono M8.out.2.2.2))
            clear hb23
            go_wp2
            go_ret
            exact ⟨rfl, BE.out⟩
          · intro x cv w21 cnt1 hwx hwc hlx hat hrg1 hlt hg1 hs1 hen
            obtain ⟨y, hy, ey⟩ := hlf.out _ hlx
            have hxy : x = (y : Int) := by injection ey
            subst hxy
            obtain ⟨hyl, hy41, hy1⟩ := HW.out y hy
            have hcv : cv = 1 := by
              have h := hat (.lit (.int .i64 0))
              rw [HD.out.2.1 y (by omega), if_pos hy] at h
              injection h with h
              injection h with _ h
              exact h.symm
            subst hcv
            have M7 := Lib.hid (M6.out.kp (grown_kp hg1) (fun k e => by cases e; exact ⟨hz6.out, hlo6.out⟩))
            obtain ⟨ts, hts⟩ := trs_ex HV.out [y]
            obtain ⟨t, rfl⟩ : ∃ t, ts = [t] := List.length_eq_one_iff.1 (trs_one hts).1
            have hlv : s.lives (y : Int) = true := by
              unfold St.lives
              rw [Int.toNat_natCast, hyl, decide_eq_true (by omega)]
              rfl
            have HRG := Lib.hid hrg
            have HLT := Lib.hid hlt
            clear hwx hwc hlx hat hg1 hs1 ey hy hrg hlt
            go_wp2_with fail
            refine (tree12_yes y t w21 M7.out.1 HV.out HF.out (by omega) hlv hts).mono ?_
            rintro e w22 ⟨v22, rfl, TW, hb22⟩
            obtain ⟨g5, k5, x5, at5, kd5, A5, n5, a5, K5, c5, et, rfl⟩ := TW.parts
            have hrg2 := Lib.hid ((hrg1.kept (below_grown hb22) (by simp) (by simp)).alloc (.cells #[.string g5, .string k5, .string x5, .slice A5 n5 a5, .slice K5 kd5.length c5] 31 (0, 0)))
            have M8 := Lib.hid ((M7.out.call hb22).call ((Below.refl _ w22).alloc (Nat.le_refl _) (.cells #[.string g5, .string k5, .string x5, .slice A5 n5 a5, .slice K5 kd5.length c5] 31 (0, 0))))
            clear TW hb22 et hen hrg1 M7 M6 hlv hts
            go_wp2_with fail
            go_roundw
            case rel => exact ⟨_, cnt1, ⟨hrg2.out, fun kl h => hlf.out kl (by simp only [Bool.and_eq_true] at h; exact h.1)⟩, ⟨ro6, M8.out, hz6.out, hlo6.out⟩⟩
            case measure => rw [hrg2.out.left_eq, HRG.out.left_eq]; exact HLT.out
end Go.Proofs.Ytdbnhpghemlkbaa
