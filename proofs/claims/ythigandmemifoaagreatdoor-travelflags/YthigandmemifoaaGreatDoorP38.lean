/-
  Put together: TvJ, UOwnX.
-/
import Derived.Test.YthigandmemifoaaGreatDoorP37
import Derived.Test.YthigandmemifoaaGreatDoorP14
namespace Go.Proofs.YthigandmemifoaaGreatDoor
open Go.RowKit Go.PlainAid
set_option maxRecDepth 100000

set_option maxHeartbeats 12800000 in
theorem go7 (v : Value) (l : List Rc) (s : ByteArray) (fv : Value) (n : Nat) (g : Nat → Bool) (w : World) (h : Rs w v l) (hf : Fit l) (hs : s.size ≤ 10000) (hg : Bs w fv n g) :
    Calls Tryz.prog 7 #[v, .string s, fv] w (GoPost (goS l n g s) w) := by
  have B0 := Lib.hid ((Below.refl w.heap.size w).alloc (Nat.le_refl _) (.cells #[.slice none 0 0, .slice none 0 0, .int .i64 0, .slice none 0 0, .slice none 0 0, .int .i64 0] 36 (0, 0)))
  have X6 := Lib.hid (blk_new w (.cells #[.slice none 0 0, .slice none 0 0, .int .i64 0, .slice none 0 0, .slice none 0 0, .int .i64 0] 36 (0, 0)))
  have HS := Lib.hid (h.call B0.out)
  have HG := Lib.hid (hg.call B0.out)
  have HF := Lib.hid hf
  have HS0 := Lib.hid h
  have HG0 := Lib.hid hg
  have HP := Lib.hid (parse9 s (w.alloc (.cells #[.slice none 0 0, .slice none 0 0, .int .i64 0, .slice none 0 0, .slice none 0 0, .int .i64 0] 36 (0, 0))) hs)
  obtain ⟨A, cap, rfl⟩ := h.len
  obtain ⟨Af, cf, rfl⟩ := hg.shape
  obtain ⟨R, hR⟩ : ∃ R, R = goS l n g s := ⟨_, rfl⟩
  rw [← hR]
  have ER := Lib.hid hR
  clear h hg hf hR
  go_enter Tryz.func7, Tryz.ntmps7
  go_upto_region 1 with fail
  generalize w.alloc (.cells #[.slice none 0 0, .slice none 0 0, .int .i64 0, .slice none 0 0, .slice none 0 0, .int .i64 0] 36) = w1 at *
  by_cases hpb : parB s = true
  · have PR := Lib.hid (par_right hpb)
    have PS := Lib.hid (right_small (par_right hpb))
    have ER2 : Hid (R = goL l n g 6 (fdB l (parP s)) (fdP l (parP s) (parQ s)) 0) := by show _ = _; rw [ER.out, goS, if_pos hpb]; rfl
    rw [hpb] at HP
    have e0 : erI true = 0 := rfl
    rw [e0] at HP
    clear e0 hpb ER
    generalize parP s = pp at *
    generalize parQ s = qq at *
    go_upto_region 2 with (first | (go_at_call 19; refine HP.out.mono ?_; rintro e w2 ⟨u1, u2, rfl, h1, h2, hb2⟩; have P1 := Lib.hid h1; have P2 := Lib.hid h2; have B2 := Lib.hid hb2; obtain ⟨a1, m1, b1, e1⟩ := h1.shape; obtain ⟨a2, m2, b2, e2⟩ := h2.shape; subst e1 e2; clear h1 h2 hb2))
    have B3 := Lib.hid (B2.out.alloc B2.out.size (.cells #[.slice a1 m1 b1, .slice a2 m2 b2] 33 (0, 0)))
    have X8 := Lib.hid (blk_new w2 (.cells #[.slice a1 m1 b1, .slice a2 m2 b2] 33 (0, 0)))
    have D23 := Lib.hid ((Below.refl w2.heap.size w2).alloc (Nat.le_refl _) (.cells #[.slice a1 m1 b1, .slice a2 m2 b2] 33 (0, 0)))
    generalize w2.alloc (.cells #[.slice a1 m1 b1, .slice a2 m2 b2] 33) = w3 at *
    have x0 : w3.cell? ⟨w2.heap.size, 0, none⟩ = some (.slice a1 m1 b1) := by rw [blk_cell X8.out]; rfl
    have x1 : w3.cell? ⟨w2.heap.size, 1, none⟩ = some (.slice a2 m2 b2) := by rw [blk_cell X8.out]; rfl
    have HFD := Lib.hid (find20 _ l _ _ pp qq w3 (HS.out.call B3.out) HF.out (P1.out.call D23.out) (P2.out.call D23.out) (fun t ht => by have := (PS.out.2.2.1 t ht).2; omega) (by have := PS.out.1; omega))
    have CH0 := Lib.hid (fdP_ch HF.out pp qq)
    have CHh := Lib.hid (fdP_h l pp qq)
    generalize fdP l pp qq = P0 at *
    generalize fdB l pp = K0 at *
    go_upto_region 5 with (first | (go_at_call 20; refine HFD.out.mono ?_; rintro e w4 ⟨v1, v2, v3, v4, rfl, h4, hb4⟩; have H4 := Lib.hid h4; have B4 := Lib.hid (B3.out.trans (hb4.mono B3.out.size)); obtain ⟨p1, i1, d1, p2, i2, d2, p3, i3, d3, p4, i4, d4, q1, q2, q3, q4⟩ := h4.shape; subst q1 q2 q3 q4; clear h4 hb4))
    rw [CHh.out]
    have B5 := Lib.hid (B4.out.alloc B4.out.size (.cells #[.slice p1 i1 d1, .slice p2 i2 d2, .int .i64 P0.i, .slice p3 i3 d3, .slice p4 i4 d4, .int .i64 0] 36 (0, 0)))
    have X10 := Lib.hid (blk_new w4 (.cells #[.slice p1 i1 d1, .slice p2 i2 d2, .int .i64 P0.i, .slice p3 i3 d3, .slice p4 i4 d4, .int .i64 0] 36 (0, 0)))
    have D45 := Lib.hid ((Below.refl w4.heap.size w4).alloc (Nat.le_refl _) (.cells #[.slice p1 i1 d1, .slice p2 i2 d2, .int .i64 P0.i, .slice p3 i3 d3, .slice p4 i4 d4, .int .i64 0] 36 (0, 0)))
    generalize w4.alloc (.cells #[.slice p1 i1 d1, .slice p2 i2 d2, .int .i64 P0.i, .slice p3 i3 d3, .slice p4 i4 d4, .int .i64 0] 36) = w5 at *
    have H5 := Lib.hid (H4.out.call D45.out)
    have K6 := Lib.hid (blk_call X6.out B5.out)
    have hlt6 : w1.heap.size ≤ w4.heap.size := B4.out.size
    have hlt1 : w.heap.size < w1.heap.size := blk_lt X6.out
    clear x0 x1 HFD P1 P2 X8 D23 D45 B2 B3 B4 PR PS H4 HP CHh X6
    generalize w4.heap.size = X at *
    go_wp2_with fail
    go_loopw [11, 12] (fun s11 s12 wr => ∃ (ok : Bool) (h f : Nat) (pl : Pl) (A1 A2 A3 A4 : Option Addr) (n1 n2 n3 n4 c1 c2 c3 c4 : Nat), s11 = .bool ok ∧ s12 = .int .i64 (h : Int) ∧ h + f = 6 ∧ 1 ≤ f ∧ Hid (wr.heap[X]? = some (.cells #[.slice A1 n1 c1, .slice A2 n2 c2, .int .i64 pl.i, .slice A3 n3 c3, .slice A4 n4 c4, .int .i64 0] 36 (0, 0))) ∧ Hid (PlOk wr (.slice A1 n1 c1) (.slice A2 n2 c2) (.slice A3 n3 c3) (.slice A4 n4 c4) pl) ∧ Hid (ChOk l pl.c) ∧ Hid (R = goL l n g f ok pl (h : Int)) ∧ Hid (wr.heap[w.heap.size]? = some (.cells #[.slice none 0 0, .slice none 0 0, .int .i64 0, .slice none 0 0, .slice none 0 0, .int .i64 0] 36 (0, 0))) ∧ Hid (Below w.heap.size w wr)) (fun _ s12 _ => 6 - (intOf s12).toNat)
    case atStart => exact ⟨K0, 0, 6, P0, _, _, _, _, _, _, _, _, _, _, _, _, rfl, rfl, rfl, by omega, X10.out, H5.out, CH0.out, ER2.out, K6.out, B0.out.trans (B5.out.mono B0.out.size)⟩
    case round =>
      obtain ⟨ok, h, f, pl, A1, A2, A3, A4, n1, n2, n3, n4, c1, c2, c3, c4, rfl, rfl, hf6, hf1, KX, HPL, HCH, HR, KZ, HB⟩ := hrel
      obtain ⟨f, rfl⟩ : ∃ f', f = f' + 1 := ⟨f - 1, by omega⟩
      have hXX : w.heap.size ≠ X := by omega
      have HSr := Lib.hid (HS0.out.call HB.out)
      have HGr := Lib.hid (HG0.out.call HB.out)
      cases ok
      · have E : Hid (R = (2, zPl)) := by show _ = _; rw [HR.out]; rfl
        obtain ⟨⟨k0, k1, k2, k3, k4, k5⟩, ⟨f0, f1, f2, f3, f4, f5⟩⟩ := blk6 KZ.out
        go_wp2_with fail
        exact go_err E.out rfl rfl (Nat.le_refl _) KZ.out HB.out
      · have hx3 : wr.cell? ⟨X, 3, none⟩ = some (.slice A3 n3 c3) := by rw [blk_cell KX.out]; rfl
        have HRU := Lib.hid (rules21 _ l _ pl.c wr HSr.out HPL.out.2.2.1.1 HCH.out.2 HCH.out.1)
        have HAL := Lib.hid (fun (u : Value) (w' : World) B w0 h k => all15s l pl.c u (.slice Af n cf) n g w' B w0 h HCH.out.1 k)
        have HSY := Lib.hid (sy_range l n g pl.c)
        have HE : Hid (R = if (syL l n g pl.c).1 = 0 then (0, { pl with h := (h : Int) }) else if (syL l n g pl.c).1 = 1 then (3, zPl) else if (h : Int) = 5 then (4, zPl) else goL l n g f (flB l (syL l n g pl.c).2) (flP l (syL l n g pl.c).2) ((h : Int) + 1)) := HR.out
        clear HR
        generalize syL l n g pl.c = sy at *
        obtain ⟨a, x⟩ := sy
        dsimp only at HE HSY HAL
        rcases HSY.out with h0 | h1 | h2
        · subst h0
          have E : Hid (R = (0, { pl with h := (h : Int) })) := HE.out.trans (if_pos rfl)
          clear HE HSY
          go_wp2_with (first
            | (go_at_call 21; refine HRU.out.mono ?_; rintro e wa ⟨ua, rfl, ha⟩; have HA := Lib.hid ha; have Ba := Lib.hid ha.2.1; obtain ⟨Aa, na, ca, ea⟩ := ha.kp; subst ea; clear ha)
            | (go_at_call 15; refine (HAL.out _ _ _ _ HA.out (HGr.out.call Ba.out)).mono ?_; rintro e wb ⟨pb, rfl, hbb⟩; have Bb := Lib.hid (Ba.out.trans (hbb.mono Ba.out.size)); clear hbb; have KZb := Lib.hid (blk_call KZ.out Bb.out); obtain ⟨⟨k0, k1, k2, k3, k4, k5⟩, ⟨f0, f1, f2, f3, f4, f5⟩⟩ := blk6 (blk_call KX.out Bb.out); obtain ⟨⟨y0, y1, y2, y3, y4, y5⟩, ⟨z0, z1, z2, z3, z4, z5⟩⟩ := blk6 KZb.out))
          exact go_fin E.out rfl rfl (Nat.le_refl _) (blk_setCell_other KZb.out hXX _) ((HPL.out.call Bb.out).kpU (blk_call KX.out Bb.out) (by decide) plC_no (kpO wb X 5 _)) ((HB.out.trans (Bb.out.mono HB.out.size)).trans ((kpO wb X 5 _).below (by have := HB.out.size; have := Bb.out.size; omega) (fun k hk e => by omega)))
        · subst h1
          have E : Hid (R = (3, zPl)) := HE.out.trans ((if_neg (by decide)).trans (if_pos rfl))
          clear HE HSY
          go_wp2_with (first
            | (go_at_call 21; refine HRU.out.mono ?_; rintro e wa ⟨ua, rfl, ha⟩; have HA := Lib.hid ha; have Ba := Lib.hid ha.2.1; obtain ⟨Aa, na, ca, ea⟩ := ha.kp; subst ea; clear ha)
            | (go_at_call 15; refine (HAL.out _ _ _ _ HA.out (HGr.out.call Ba.out)).mono ?_; rintro e wb ⟨pb, rfl, hbb⟩; have Bb := Lib.hid (Ba.out.trans (hbb.mono Ba.out.size)); clear hbb; have KZb := Lib.hid (blk_call KZ.out Bb.out); obtain ⟨⟨k0, k1, k2, k3, k4, k5⟩, ⟨f0, f1, f2, f3, f4, f5⟩⟩ := blk6 (blk_call KX.out Bb.out); obtain ⟨⟨y0, y1, y2, y3, y4, y5⟩, ⟨z0, z1, z2, z3, z4, z5⟩⟩ := blk6 KZb.out))
          exact go_err E.out rfl rfl (Nat.le_refl _) KZb.out (HB.out.trans (Bb.out.mono HB.out.size))
        · subst h2
          by_cases h5 : h = 5
          · subst h5
            have E : Hid (R = (4, zPl)) := HE.out.trans ((if_neg (by decide)).trans ((if_neg (by decide)).trans (if_pos rfl)))
            clear HE HSY
            go_wp2_with (first
            | (go_at_call 21; refine HRU.out.mono ?_; rintro e wa ⟨ua, rfl, ha⟩; have HA := Lib.hid ha; have Ba := Lib.hid ha.2.1; obtain ⟨Aa, na, ca, ea⟩ := ha.kp; subst ea; clear ha)
            | (go_at_call 15; refine (HAL.out _ _ _ _ HA.out (HGr.out.call Ba.out)).mono ?_; rintro e wb ⟨pb, rfl, hbb⟩; have Bb := Lib.hid (Ba.out.trans (hbb.mono Ba.out.size)); clear hbb; have KZb := Lib.hid (blk_call KZ.out Bb.out); obtain ⟨⟨k0, k1, k2, k3, k4, k5⟩, ⟨f0, f1, f2, f3, f4, f5⟩⟩ := blk6 (blk_call KX.out Bb.out); obtain ⟨⟨y0, y1, y2, y3, y4, y5⟩, ⟨z0, z1, z2, z3, z4, z5⟩⟩ := blk6 KZb.out))
            exact go_err E.out rfl rfl (Nat.le_refl _) KZb.out (HB.out.trans (Bb.out.mono HB.out.size))
          · have q5 : ((h : Int) == 5) = false := by simpa using (show ¬ (h : Int) = 5 by omega)
            have E : Hid (R = goL l n g f (flB l x) (flP l x) ((h : Int) + 1)) := HE.out.trans ((if_neg (by decide)).trans ((if_neg (by decide)).trans (if_neg (by omega))))
            have HFL := Lib.hid (fun (w' : World) hb => follow22 _ l x w' (HSr.out.call (w' := w') hb) HF.out)
            have HCX := Lib.hid (flP_ch HF.out x)
            have HXH := Lib.hid (flP_h l x)
            have hh : (h : Int) ≤ 5 := by omega
            clear HE HSY
            generalize flP l x = FP at *
            generalize flB l x = FB at *
            go_wp2_with (first
            | (go_at_call 21; refine HRU.out.mono ?_; rintro e wa ⟨ua, rfl, ha⟩; have HA := Lib.hid ha; have Ba := Lib.hid ha.2.1; obtain ⟨Aa, na, ca, ea⟩ := ha.kp; subst ea; clear ha)
            | (go_at_call 15; refine (HAL.out _ _ _ _ HA.out (HGr.out.call Ba.out)).mono ?_; rintro e wb ⟨pb, rfl, hbb⟩; have Bb := Lib.hid (Ba.out.trans (hbb.mono Ba.out.size)); clear hbb; have KZb := Lib.hid (blk_call KZ.out Bb.out); obtain ⟨⟨k0, k1, k2, k3, k4, k5⟩, ⟨f0, f1, f2, f3, f4, f5⟩⟩ := blk6 (blk_call KX.out Bb.out); obtain ⟨⟨y0, y1, y2, y3, y4, y5⟩, ⟨z0, z1, z2, z3, z4, z5⟩⟩ := blk6 KZb.out)
              | (go_at_call 22; refine (HFL.out _ Bb.out).mono ?_; rintro e wf ⟨g1, g2, g3, g4, rfl, hpf, hbf⟩; have HPF := Lib.hid hpf; have Bf := Lib.hid (Bb.out.trans (hbf.mono Bb.out.size)); obtain ⟨l1, j1, t1, l2, j2, t2, l3, j3, t3, l4, j4, t4, q1, q2, q3, q4⟩ := hpf.shape; subst q1 q2 q3 q4; clear hpf hbf; rw [HXH.out]; clear k0 k1 k2 k3 k4 k5 f0 f1 f2 f3 f4 f5 y0 y1 y2 y3 y4 y5 z0 z1 z2 z3 z4 z5; obtain ⟨⟨k0, k1, k2, k3, k4, k5⟩, ⟨f0, f1, f2, f3, f4, f5⟩⟩ := blk6 (blk_call KX.out Bf.out)))
            go_roundw
            case rel =>
              refine ⟨FB, h + 1, f, FP, _, _, _, _, _, _, _, _, _, _, _, _, rfl, by go_num, by omega, by omega, set6 (blk_call KX.out Bf.out) _ _ _ _ _ _, HPF.out.kpU (blk_call KX.out Bf.out) (by decide) plC_no (kp6 wf X _ _ _ _ _ _), HCX.out, ?_, ?_, ?_⟩
              · show _ = _
                rw [E.out]
                congr 1
              · exact (((kp6 wf X _ _ _ _ _ _).block w.heap.size (by have := HB.out.size; have := Bf.out.size; have := blk_lt KZ.out; omega) hXX).trans (blk_call KZ.out Bf.out))
              · exact (HB.out.trans (Bf.out.mono HB.out.size)).trans ((kp6 wf X _ _ _ _ _ _).below (by have := HB.out.size; have := Bf.out.size; omega) (fun k hk e => by omega))
            case measure => simp [intOf]; omega
  · have hpb : parB s = false := by simpa using hpb
    rw [hpb] at HP
    have E : Hid (R = (1, zPl)) := by show _ = _; rw [ER.out, goS, hpb]; rfl
    have e0 : erI false = 1 := rfl
    rw [e0] at HP
    clear e0 hpb ER
    go_wp2_with (first | (go_at_call 19; refine HP.out.mono ?_; rintro e w2 ⟨u1, u2, rfl, h1, h2, hb2⟩; obtain ⟨a1, m1, b1, e1⟩ := h1.shape; obtain ⟨a2, m2, b2, e2⟩ := h2.shape; subst e1 e2; clear h1 h2; have B2 := Lib.hid (hb2.alloc hb2.size (.cells #[.slice a1 m1 b1, .slice a2 m2 b2] 33 (0, 0))); have K6 := Lib.hid (blk_call X6.out B2.out); obtain ⟨⟨k0, k1, k2, k3, k4, k5⟩, ⟨f0, f1, f2, f3, f4, f5⟩⟩ := blk6 K6.out; clear hb2))
    exact go_err E.out rfl rfl (Nat.le_refl _) K6.out (B0.out.trans (B2.out.mono B0.out.size))
end Go.Proofs.YthigandmemifoaaGreatDoor

namespace Go.Proofs.YthigandmemifoaaGreatDoor
open Go.RowKit Go.PlainAid
set_option maxRecDepth 100000

/-- v holds the bytes xs in a block of the call's own that isn't b; b holds o -/
def OwnX (B : Nat) (w0 : World) (v : Value) (xs : List Int) (w : World) (b : Nat) (o : Obj) : Prop :=
  Own B w0 v xs w ∧ w.heap[b]? = some o ∧ v.ownBlock ≠ some b ∧ v.ownBlock ≠ none

section
variable {B : Nat} {w0 : World} {v : Value} {xs : List Int} {w : World} {b : Nat} {o : Obj}
theorem OwnX.alloc (h : OwnX B w0 v xs w b o) (x : Obj) : OwnX B w0 v xs (w.alloc x) b o := ⟨h.1.alloc x, blk_alloc h.2.1 x, h.2.2⟩
theorem OwnX.call {w' : World} (h : OwnX B w0 v xs w b o) (hb : Below w.heap.size w w') : OwnX B w0 v xs w' b o := ⟨h.1.call hb, blk_call h.2.1 hb, h.2.2⟩
theorem Own.beside (h : Own B w0 v xs w) (hv : v.ownBlock ≠ none) (x : Obj) : OwnX B w0 v xs (w.alloc x) w.heap.size x :=
  ⟨h.alloc x, blk_new w x, fun e => by have := (h.1.lt _ e).2; omega, hv⟩
end

theorem app_string_at {P : Program} (w : World) (base : Nat) (t u ty e : TypeId) (i : TypeInfo) (ht : P.underlying t = some (.slice e)) (hu : P.underlying u = some .string) (hi : P.info? e = some i) (hz : i.zero = some (.int .u8 0))
    (hsize : i.size = 1) (hby : i.bytes = 1) (v : Value) (n : Nat) (xs : List Value) (hown : w.ownsRow base e 1 v n xs) (s : ByteArray)
    (h63 : n + s.size ≤ maxLen) (hbytes : n + s.size ≤ 1000000) (hbase : base ≤ w.heap.size) (hv : v.ownBlock ≠ none) :
    ∃ v' w', (Builtin.append_ #[t, u] ty #[v, .string s]).run P w = .ok v' w' ∧ w'.ownsRow base e 1 v' (n + s.size) (xs ++ Lib.strCells s) ∧ w.grownBy w' v.ownBlock ∧
      (v'.ownBlock = v.ownBlock ∨ v'.ownBlock = some w.heap.size) := by
  obtain ⟨v', w', hr, h2, h3, _⟩ := Lib.run_append_own_string (P := P) w base t u ty e i ht hu hi hz hsize hby v n xs hown s h63 (by omega) hbase
  refine ⟨v', w', hr, h2, h3, ?_⟩
  have hcells := @World.ownsRow.cells _ _ _ _ _ _ _ hown
  obtain ⟨hl, ⟨rfl, h1⟩ | ⟨g, cap, cur, rfl, _, hg, hnc, _, hcs, _⟩⟩ := hown
  · exact absurd rfl hv
  · by_cases hroom : n + s.size ≤ cap
    · have := Lib.run_append_room_string (P := P) w t u ty e i ht hu hi hsize g n cap cur hg s hroom (by omega)
      rw [this] at hr
      injection hr with e1 _
      subst e1
      exact Or.inl rfl
    · have hle : Builtin.nextslicecap (n + s.size) cap * i.bytes ≤ 281474976710656 := growslice_fits (by omega) (by rw [hby]; omega)
      have := Lib.run_append_grow_string (P := P) w t u ty e i (.int .u8 0) ht hu hi hz ⟨g, 0, none⟩ n cap xs (by rw [hl, hsize]) (fun j u h => hcells rfl j u h) s (by omega) (by unfold maxLen at h63; omega) hle
      rw [this] at hr
      injection hr with e1 _
      subst e1
      exact Or.inr rfl

/-- append(v, c) -/
theorem wpList_appX {ops : Array Oper} {rest : List Oper} {o : Oper} {a : Act} {Q : Exit → Act → World → Prop} (w : World) (hgd : o.guard = none) (s x : Operand)
    (ho : o.op = .call { callee := .builtin .append, args := #[s, x], argTypes := #[74, 74] })
    (B : Nat) (w0 : World) (v : Value) (xs : List Int) (bx : Nat) (ob : Obj) (hs : a.eval s = v) (hown : OwnX B w0 v xs w bx ob) (hn : xs.length ≤ 100000)
    (b m c : Nat) (ys : List Int) (hx : a.eval x = .slice (some ⟨b, 0, none⟩) m c) (hm : ys.length = m) (hm1 : m ≤ 10) (hb : w.heap[b]? = some (.cells (ys.map (Value.int .u8)).toArray 5 (0, 0)))
    (h : ∀ v' w', OwnX B w0 v' (xs ++ ys) w' bx ob → wpList Tryz.prog ops Q rest (a.put o.dst v') w') : wpList Tryz.prog ops Q (o :: rest) a w := by
  refine wpList_plain hgd fun _ hK => ?_
  obtain ⟨i0, hi, hz0, hz1, hz2⟩ := info_parts info5
  obtain ⟨hown, hb1, hb2, hb3⟩ := hown
  have hr := run_append_own_at (P := Tryz.prog) w B 74 o.type 5 i0 (.int .u8 0) 1 1 Tryz.underlying74 hi hz0 hz1 hz2 rfl (by omega) v xs.length _ hown.1 ⟨b, 0, none⟩ m c (ys.map (Value.int .u8)) (by simp [hm]) (World.news_of_block hb) (bytes_one ys) (by unfold maxLen; omega) (by omega) hown.2.2
  obtain ⟨v', w', hr, h2, h3, _, h5⟩ := hr
  unfold Oper.wp execOp
  simp only [ho, resolve, invoke, builtin, Sem.run_bind, Sem.run_pure, Result.andThen_ok, List.map_toArray, List.map_cons, List.map_nil, hs, hx, hr]
  refine hK _ _ (h v' w' ⟨⟨?_, hown.2.1.grown h3 hown.2.2 (fun k hk => (hown.1.lt k hk).1), by have := h3.size; have := hown.2.2; omega⟩, ?_, ?_, ?_⟩)
  · rw [List.length_append, List.map_append, hm]
    exact h2
  · rw [h3.block bx (blk_lt hb1) (fun e => hb2 e.symm)]; exact hb1
  · rcases h5 with h5 | h5
    · rw [h5]; exact hb2
    · rw [h5]; intro e; injection e with e; have := blk_lt hb1; omega
  · rcases h5 with h5 | h5
    · rw [h5]; exact hb3
    · rw [h5]; intro e; cases e
/-- append(v, t...) -/
theorem wpList_appTX {ops : Array Oper} {rest : List Oper} {o : Oper} {a : Act} {Q : Exit → Act → World → Prop} (w : World) (hgd : o.guard = none) (sl x : Operand)
    (ho : o.op = .call { callee := .builtin .append, args := #[sl, x], argTypes := #[74, 9] })
    (B : Nat) (w0 : World) (v : Value) (xs : List Int) (bx : Nat) (ob : Obj) (hs : a.eval sl = v) (hown : OwnX B w0 v xs w bx ob) (hn : xs.length ≤ 100000) (s : ByteArray) (hx : a.eval x = .string s) (hm : s.size ≤ 100000)
    (h : ∀ v' w', OwnX B w0 v' (xs ++ bs s) w' bx ob → wpList Tryz.prog ops Q rest (a.put o.dst v') w') : wpList Tryz.prog ops Q (o :: rest) a w := by
  refine wpList_plain hgd fun _ hK => ?_
  obtain ⟨i0, hi, hz0, hz1, hz2⟩ := info_parts info5
  obtain ⟨hown, hb1, hb2, hb3⟩ := hown
  have hr := app_string_at (P := Tryz.prog) w B 74 9 o.type 5 i0 Tryz.underlying74 Tryz.underlying9 hi hz0 hz1 hz2 v xs.length _ hown.1 s (by unfold maxLen; omega) (by omega) hown.2.2 hb3
  obtain ⟨v', w', hr, h2, h3, h5⟩ := hr
  unfold Oper.wp execOp
  simp only [ho, resolve, invoke, builtin, Sem.run_bind, Sem.run_pure, Result.andThen_ok, List.map_toArray, List.map_cons, List.map_nil, hs, hx, hr]
  refine hK _ _ (h v' w' ⟨⟨?_, hown.2.1.grown h3 hown.2.2 (fun k hk => (hown.1.lt k hk).1), by have := h3.size; have := hown.2.2; omega⟩, ?_, ?_, ?_⟩)
  · have e : Lib.strCells s = (bs s).map (Value.int .u8) := by simp [Lib.strCells, bs]
    rw [List.length_append, bs_len, List.map_append, ← e]
    exact h2
  · rw [h3.block bx (blk_lt hb1) (fun e => hb2 e.symm)]; exact hb1
  · rcases h5 with h5 | h5
    · rw [h5]; exact hb2
    · rw [h5]; intro e; injection e with e; have := blk_lt hb1; omega
  · rcases h5 with h5 | h5
    · rw [h5]; exact hb3
    · rw [h5]; intro e; cases e
end Go.Proofs.YthigandmemifoaaGreatDoor
