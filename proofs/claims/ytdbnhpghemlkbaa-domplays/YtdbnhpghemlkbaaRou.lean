/-
  The reference: out, Detach.
-/
import Derived.Test.YtdbnhpghemlkbaaRmk
import Derived.Test.YtdbnhpghemlkbaaCat
import Derived.Test.YtdbnhpghemlkbaaDet
import Derived.Test.YtdbnhpghemlkbaaTrr
namespace Go.Proofs.Ytdbnhpghemlkbaa
open Go.RowKit Go.PlainAid Dm
set_option maxRecDepth 100000

theorem wpList_catR {ops : Array Oper} {rest : List Oper} {o : Oper} {a : Act} {Q : Exit → Act → World → Prop} (w : World) (hgd : o.guard = none) (s x : Operand) (ho : o.op = .call { callee := .builtin .append, args := #[s, x], argTypes := #[51, 51] }) (B : Nat) (v : Value) (xs : List Nat) (hs : a.eval s = v)
    (hown : w.ownsRow B 3 1 v xs.length (niC xs)) (hB : B ≤ w.heap.size) (sv : Value) (ys : List Nat) (hx : a.eval x = sv) (hr : Ni w sv ys) (hn : xs.length ≤ 100000000) (hm : ys.length ≤ 100000000)
    (h : ∀ v' w', w'.ownsRow B 3 1 v' (xs ++ ys).length (niC (xs ++ ys)) → w.grownBy w' v.ownBlock → (v'.ownBlock = v.ownBlock ∨ v'.ownBlock = some w.heap.size) → wpList Try.prog ops Q rest (a.put o.dst v') w') : wpList Try.prog ops Q (o :: rest) a w :=
  wpList_plain hgd fun _ hK => wp_cat w s x ho B v xs hs hown hB sv ys hx hr hn hm fun v' w' h2 h3 h4 => hK _ _ (h v' w' h2 h3 h4)
section
variable {ro : Ros} {D : Nat} {s : St}
def OutP (M : Mo) (ro : Ros) (D : Nat) (s' : St) (w : World) (e : Ending) (w' : World) : Prop := e = .returned (.tuple #[]) ∧ Turn M ro D s' (fun _ => True) w w'
set_option maxHeartbeats 3200000 in
theorem out45 (i : Nat) (w : World) (h : Dom mR ro w D s) (hv : Inv s) (hp0 : (s.nd i).par ≠ 0) (hi : i ≤ s.top) (ht : s.top ≤ 1000000) :
    Calls Try.prog 45 #[.pointer (some ⟨D, 0, none⟩), .int .i64 i] w (OutP mR ro D (s.out i) w) := by
  have hp := (hv.live_pos (hv.par_live hp0)).2
  have hkl := kids_len hv (s.nd i).par
  obtain ⟨N, c, fv, av, kv, h⟩ := h
  have OE := Lib.hid (out_eq hv hp0)
  have R0 := Lib.hid h
  have hne := hv.par_ne hp0
  have c0 := h.c0
  obtain ⟨_, _, _, _, _, n5, _⟩ := h.nc hi
  obtain ⟨p, hpe⟩ : ∃ p, (s.nd i).par = p := ⟨_, rfl⟩
  rw [hpe] at OE hp0 hp hkl hne n5
  obtain ⟨_, _, _, _, _, _, n6⟩ := h.nc hp
  obtain ⟨K, k, e2, _, _⟩ := (h.ki p hp).shape
  have NK := Lib.hid (owns_ni (h.ki p hp).1)
  have n6s := Lib.hid n6
  have g6 := Lib.hid (h.nf (p * 7 + 6))
  rw [e2] at n6 NK
  clear h hv hpe e2
  have hp2 : (p : Int) < (s.top : Int) + 1 := by omega
  have hi2 : (i : Int) < (s.top : Int) + 1 := by omega
  generalize hks : (s.nd p).kids = ks at *
  replace hks := Lib.hid hks
  generalize hkn : ks.length = kn at *
  replace hkn := Lib.hid hkn
  go_enter Try.func45, Try.ntmps45
  go_upto_block 0 with fail
  clear n5 n6 c0
  go_cut [5] (fun p5 wz => ∃ (A : Option Addr) (c2 n2 : Nat), p5 = .slice A n2 c2 ∧ Hid (wz.ownsRow w.heap.size 3 1 (.slice A n2 c2) (ks.filter (fun k => decide (k ≠ i))).length (niC (ks.filter (fun k => decide (k ≠ i))))) ∧ Hid (Below w.heap.size w wz))
  case first =>
    go_wp2_with fail
    go_loopw [25, 5] (fun p25 p5 wr => ∃ (j : Nat) (A : Option Addr) (c2 n2 : Nat), j ≤ kn ∧ p25 = .int .i64 j ∧ p5 = .slice A n2 c2 ∧ Hid (wr.ownsRow w.heap.size 3 1 (.slice A n2 c2) ((ks.take j).filter (fun k => decide (k ≠ i))).length (niC ((ks.take j).filter (fun k => decide (k ≠ i))))) ∧ Hid (Below w.heap.size w wr)) (fun p _ _ => kn - (intOf p).toNat)
    case atStart => exact ⟨0, none, 0, 0, Nat.zero_le _, rfl, rfl, World.ownsRow_nil _ _ _ _, Below.refl _ w⟩
    case round =>
      obtain ⟨j, A, c2, n2, hj, rfl, rfl, HO, HB⟩ := hrel
      by_cases hlt : j < kn
      · have d0 : (j : Int) < (kn : Int) := by omega
        have hjl : j < ks.length := by rw [hkn.out]; exact hlt
        have hcr : ∃ b o, K = some ⟨b, o, none⟩ ∧ wr.cell? ⟨b, o + j, none⟩ = some (.int .i64 (ks.getD j 0 : Nat)) := by
          obtain ⟨A', c', eA, _, _, hA⟩ := NK.out
          injection eA with e1 e2 e3
          subst e1
          obtain ⟨b, o, e4, e5⟩ := hA j hjl
          exact ⟨b, o, e4, by rw [HB.out.cell (World.block_lt_of_cell? w _ e5)]; exact e5⟩
        have htk : ks.take (j + 1) = ks.take j ++ [ks.getD j 0] := by
          rw [List.take_add_one]
          simp [List.getD, hjl]
        obtain ⟨b, o, rfl, hc⟩ := hcr
        generalize ks.getD j 0 = x at *
        by_cases hx : x = i
        · subst hx
          have q1 : ((x : Int) != (x : Int)) = false := by simp
          have E : (ks.take (j + 1)).filter (fun k => decide (k ≠ x)) = (ks.take j).filter (fun k => decide (k ≠ x)) := by
            rw [htk, List.filter_append]
            simp
          go_wp2_with fail
          go_roundw
          case rel => exact ⟨j + 1, A, c2, n2, by omega, by go_num, rfl, by rw [E]; exact HO.out, HB.out⟩
          case measure => simp [intOf]; omega
        · have q1 : ((x : Int) != (i : Int)) = true := bneT (by omega)
          have E : (ks.take (j + 1)).filter (fun k => decide (k ≠ i)) = (ks.take j).filter (fun k => decide (k ≠ i)) ++ [x] := by
            rw [htk, List.filter_append]
            simp [hx]
          have hll : ((ks.take j).filter (fun k => decide (k ≠ i))).length ≤ 1000000 := by
            have h1 := List.length_filter_le (fun k => decide (k ≠ i)) (ks.take j)
            rw [List.length_take] at h1
            omega
          have HO2 := Lib.hid (owns_sameB HO.out (fun g hg => ((Below.refl _ wr).alloc (Nat.le_refl _) (.cells #[.int .i64 (x : Int)] 3 (0, 0))).block g (HO.out.lt g hg).2))
          have N2 : Hid (Ni (wr.alloc (.cells #[.int .i64 (x : Int)] 3 (0, 0))) (.slice (some ⟨wr.heap.size, 0, none⟩) 1 1) [x]) := ni_one (blk_new wr _)
          have B2 := Lib.hid (HB.out.alloc HB.out.size (.cells #[.int .i64 (x : Int)] 3 (0, 0)))
          clear htk
          generalize (ks.take j).filter (fun k => decide (k ≠ i)) = acc at *
          go_wp2_with (at_builtin; go_loud (refine wpList_catR _ rfl _ _ rfl w.heap.size (.slice A n2 c2) acc rfl HO2.out B2.out.size _ [x] rfl N2.out (by omega) (by simp) ?_); intro v7 w7 h7 hg7 hv7; have HO7 := Lib.hid h7; have B7 := Lib.hid (B2.out.grown hg7 B2.out.size (fun k hk => (HO2.out.lt k hk).1)); obtain ⟨A7, c7, rfl⟩ := owns_shape h7; clear h7 hg7 hv7)
          have HO8 : Hid (w7.ownsRow w.heap.size 3 1 (.slice A7 (acc.length + 1) c7) (acc ++ [x]).length (niC (acc ++ [x]))) := by
            have h := HO7.out
            have hl : (acc ++ [x]).length = acc.length + 1 := by simp
            rw [hl] at h ⊢
            exact h
          go_roundw
          case rel => exact ⟨j + 1, A7, c7, _, by omega, by go_num, rfl, by rw [E]; exact HO8, B7.out⟩
          case measure => simp [intOf]; omega
      · have d0 : ¬ (j : Int) < (kn : Int) := by omega
        obtain rfl : j = kn := by omega
        have HO2 := HO.out
        rw [← hkn.out, List.take_length] at HO2
        replace HO2 := Lib.hid HO2
        go_wp2_with fail
        go_meet
        exact ⟨A, c2, n2, rfl, HO2, HB.out⟩
  case rest =>
    obtain ⟨A, c2, n2, rfl, HO, HB⟩ := hcut
    obtain ⟨L, LE⟩ : ∃ L, ks.filter (fun k => decide (k ≠ i)) = L := ⟨_, rfl⟩
    rw [LE] at OE
    rw [LE] at HO
    clear LE
    have TU := Lib.hid (R0.out.setK hp L (Kp.of_below HB.out (fun k => ro k = 5 + p)) (owns_zero HO.out) (fun g hg => Or.inr (HO.out.lt g hg).1) (fun _ => rfl))
    have RZ := R0.out.call HB.out
    have c0 := RZ.c0
    obtain ⟨x6, n6⟩ : ∃ x6 : Value, wc.cell? ⟨N, p * 7 + 6, none⟩ = some x6 := ⟨_, (RZ.nc hp).2.2.2.2.2.2⟩
    have g6 := RZ.nf (p * 7 + 6)
    clear RZ
    go_upto_region 9 with fail
    clear c0 n6 g6 n6s
    obtain ⟨ro3, R3, o3, m3, k3⟩ := TU.out
    generalize wc.setCell _ _ = w3 at *
    replace R3 := Lib.hid R3
    replace o3 := Lib.hid o3
    replace m3 := Lib.hid m3
    replace k3 := Lib.hid k3
    have c0 := R3.out.c0
    rw [show (s.put p { s.nd p with kids := L }).top = s.top from rfl] at c0
    obtain ⟨x5, n5⟩ : ∃ x5 : Value, w3.cell? ⟨N, i * 7 + 5, none⟩ = some x5 := ⟨_, (R3.out.nc (i := i) hi).2.2.2.2.2.1⟩
    have g5 := R3.out.nf (i * 7 + 5)
    have R4a := R3.out.setP (i := i) hi 0 (fun _ => rfl)
    rw [OE.out] at R4a
    have R4 : Hid (Rel mR ro3 (w3.setCell ⟨N, i * 7 + 5, none⟩ (.int .i64 0)) D N c fv _ _ (s.out i)) := R4a
    clear R4a OE TU
    go_wp2
    go_end0
    have hrN : ro N ≠ 0 := by rw [R0.out.rN]; decide
    have K4 : Kp (fun k => ro k ≠ 0 ∧ True) w (w3.setCell ⟨N, i * 7 + 5, none⟩ (.int .i64 0)) := k3.out.setCell (p := ⟨N, i * 7 + 5, none⟩) (fun _ => ⟨hrN, trivial⟩) _
    exact ⟨rfl, ro3, ⟨N, c, fv, _, _, R4.out⟩, o3.out, m3.out, K4⟩
set_option maxHeartbeats 1600000 in
theorem detach24_no (i : Int) (w : World) (h : Dom mR ro w D s) (hv : Inv s) (hm : ¬ s.mayDetach i) :
    Calls Try.prog 24 #[.pointer (some ⟨D, 0, none⟩), .int .i64 i] w (NoR w) := by
  have G := Lib.hid (lives43 i w h hv)
  cases hl : s.lives i with
  | false =>
    clear h hv hm
    go_enter Try.func24, Try.ntmps24
    go_wp2_with fail
    refine G.out.mono ?_
    rintro e w' ⟨rfl, rfl⟩
    rw [hl]
    go_wp2
    go_ret
    exact ⟨rfl, rfl⟩
  | true =>
    obtain ⟨k, rfl, hk, _, _⟩ := lives_nat hv hl
    have hp : (s.nd k).par = 0 := by
      by_cases e : (s.nd k).par = 0
      · exact e
      · exact absurd ⟨hl, by rw [Int.toNat_natCast]; exact e⟩ hm
    obtain ⟨N, c, fv, av, kv, h⟩ := h
    have c0 := h.c0
    obtain ⟨_, _, _, _, _, n5, _⟩ := h.nc hk
    rw [hp] at n5
    have hk2 : (k : Int) < (s.top : Int) + 1 := by omega
    clear h hv hm hp
    go_enter Try.func24, Try.ntmps24
    go_wp2_with fail
    refine G.out.mono ?_
    rintro e w' ⟨rfl, rfl⟩
    rw [hl]
    go_wp2
    go_ret
    exact ⟨rfl, rfl⟩
set_option maxHeartbeats 1600000 in
theorem detach24_yes (i : Nat) (w : World) (h : Dom mR ro w D s) (hv : Inv s) (hm : s.mayDetach i) (ht : s.top ≤ 1000000) :
    Calls Try.prog 24 #[.pointer (some ⟨D, 0, none⟩), .int .i64 i] w (Yes mR ro D (s.out i) w) := by
  have G := Lib.hid (lives43 i w h hv)
  have hl := hm.1
  obtain ⟨k, e0, hi, _, _⟩ := lives_nat hv hl
  obtain rfl : i = k := by omega
  have hp0 := hm.2
  rw [Int.toNat_natCast] at hp0
  have OU := Lib.hid (out45 i w h hv hp0 hi ht)
  have q1 : (((s.nd i).par : Int) == 0) = false := beqF (by omega)
  obtain ⟨N, c, fv, av, kv, h⟩ := h
  have c0 := h.c0
  obtain ⟨_, _, _, _, _, n5, _⟩ := h.nc hi
  have hi2 : (i : Int) < (s.top : Int) + 1 := by omega
  clear h hv hm hp0 e0
  go_enter Try.func24, Try.ntmps24
  go_wp2_with fail
  refine G.out.mono ?_
  rintro e w' ⟨rfl, rfl⟩
  rw [hl]
  go_wp2_with fail
  refine OU.out.mono ?_
  rintro e w3 ⟨rfl, TU⟩
  replace TU := Lib.hid TU
  go_wp2
  go_ret
  exact ⟨rfl, TU.out⟩
end
end Go.Proofs.Ytdbnhpghemlkbaa
