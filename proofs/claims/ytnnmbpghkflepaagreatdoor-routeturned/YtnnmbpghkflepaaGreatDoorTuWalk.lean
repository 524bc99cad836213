/-
  RouteTurned, walked.
-/
import Derived.Test.YtnnmbpghkflepaaGreatDoorTurnP
import Derived.Test.YtnnmbpghkflepaaGreatDoorKRec
import Derived.Test.YtnnmbpghkflepaaGreatDoorRuns
import Derived.Deep.LoopGhost
namespace Go.Proofs.YtnnmbpghkflepaaGreatDoor
open Go.RowKit Go.PlainAid
set_option maxRecDepth 100000

theorem blk_new2 (w : World) (x y z : Obj) : (((w.alloc x).alloc y).alloc z).heap[w.heap.size + 1 + 1]? = some z := by
  have := blk_new ((w.alloc x).alloc y) z
  have hs : ((w.alloc x).alloc y).heap.size = w.heap.size + 1 + 1 := by simp
  rw [hs] at this
  exact this
theorem ps_nil9 {w : World} : Ps w (.slice none 0 0) [] := ⟨none, 0, rfl, by simp, fun _ => rfl, fun i hi => by simp at hi⟩
/-- what the switch leaves -/
def TuMid (w2 : World) (v : Value) (wz : World) : Prop := ∃ M : List Rc, Rs wz v M ∧ Fit M ∧ rtB M = false ∧ Below w2.heap.size w2 wz

set_option maxHeartbeats 25600000 in
theorem routeTurned5 (w : World) (at' what' by' : Int) {A0 A1 A2 A3 A4 A5 A6 : Option Addr} {n0 n1 n2 n3 n4 n5 n6 c0 c1 c2 c3 c4 c5 c6 : Nat} {f0 f1 f2 f3 f4 f5 f6 : Nat → Int} (h0 : Ia w A0 n0 f0) (h1 : Ia w A1 n1 f1) (h2 : Ia w A2 n2 f2) (h3 : Ia w A3 n3 f3) (h4 : Ia w A4 n4 f4) (h5 : Ia w A5 n5 f5) (h6 : Ia w A6 n6 f6) :
    Calls Tryz.prog 5 #[.agg #[.slice A0 n0 c0, .slice A1 n1 c1, .slice A2 n2 c2, .slice A3 n3 c3, .slice A4 n4 c4, .slice A5 n5 c5, .slice A6 n6 c6], .int .i64 at', .int .i64 what', .int .i64 by'] w fun e w' => e = .returned (.bool true) ∧ Below w.heap.size w w' := by
  have HB := Lib.hid ((Below.refl w.heap.size w).alloc (Nat.le_refl _) (.cells #[.slice A0 n0 c0, .slice A1 n1 c1, .slice A2 n2 c2, .slice A3 n3 c3, .slice A4 n4 c4, .slice A5 n5 c5, .slice A6 n6 c6] 25 (0, 0)))
  have HRC := Lib.hid (records7 (w.alloc (.cells #[.slice A0 n0 c0, .slice A1 n1 c1, .slice A2 n2 c2, .slice A3 n3 c3, .slice A4 n4 c4, .slice A5 n5 c5, .slice A6 n6 c6] 25 (0, 0))) (c0 := c0) (c1 := c1) (c2 := c2) (c3 := c3) (c4 := c4) (c5 := c5) (c6 := c6) (h0.call HB.out) (h1.call HB.out) (h2.call HB.out) (h3.call HB.out) (h4.call HB.out) (h5.call HB.out) (h6.call HB.out))
  clear h0 h1 h2 h3 h4 h5 h6
  go_enter Tryz.func5, Tryz.ntmps5
  go_upto_region 2 with (first | (go_at_call 7; refine HRC.out.mono ?_; rintro e w1 ⟨v1, l, ds, rfl, ho, hok⟩; have HO := Lib.hid (ho.rebase HB.out.size HB.out); have HK := Lib.hid hok; obtain ⟨P4, q4, e4⟩ := ho.rs.len; subst e4; clear ho hok))
  clear HRC
  have hl1 := HK.out.len1
  have hl8 := HK.out.len8
  have HRT := Lib.hid HK.out.right
  have HF := Lib.hid HK.out.fit
  have HP := Lib.hid HK.out.par
  go_upto_region 4 with (first | (go_at_call 11; refine (right11 _ l _ HO.out.rs HF.out).mono ?_; rintro e w2 ⟨rfl, hb2⟩; rw [HRT.out]; have O2 := Lib.hid (HO.out.call hb2); clear hb2))
  obtain ⟨b4, o4, e4, hat0, -⟩ := O2.out.rs.at 0 (by omega)
  subst e4
  have HAT0 := Lib.hid hat0
  clear hat0
  have OE := Lib.hid (empR w2.heap.size w2 w2 (Below.refl _ _) (Nat.le_refl _))
  have OS := Lib.hid (O2.out.rs.call ((Below.refl _ w2).alloc (Nat.le_refl _) (.cells #[] 59 (0, 0))))
  have OG : Hid (∀ r ∈ l, Gt (w2.alloc (.cells #[] 59 (0, 0))) r.u r.l) := fun r hr => (O2.out.2.2.2 r hr).call ((Below.refl _ w2).alloc (Nat.le_refl _) _)
  go_upto_region 5 with (first | (at_builtin; refine wpList_appR2 rfl (.tmp 23) (.tmp 24) rfl rfl OE.out (by simp) _ _ _ l rfl rfl (by omega) (rs_src OS.out) OG.out ?_; intro v3 w3 h3 hg3 _; rw [List.nil_append] at h3; have O3 := Lib.hid h3; obtain ⟨g, cg, cur, e3, hg, hkg⟩ := h3.blk hl1; subst e3; have KG := Lib.hid hkg; have GG := Lib.hid hg; clear h3 hg3 hkg hg))
  obtain ⟨m, hm⟩ : ∃ m, l.length = m + 1 := ⟨l.length - 1, by omega⟩
  have eL : ((l.length : Nat) : Int) - 1 = (m : Int) := by omega
  have HM := Lib.hid hm
  clear hm
  go_upto_block 0 with (first
    | (go_at_call_of 26 at'; refine (within19 _ m _ (by omega)).mono ?_; rintro e w' ⟨i, him, rfl, hw⟩; rw [hw]; clear hw)
    | (go_at_call_of 26 by'; refine (within19 _ 99 _ (by omega)).mono ?_; rintro e w' ⟨nn, hnn, rfl, hw⟩; rw [hw]; clear hw)
    | (go_at_call_of 26 what'; refine (within19 _ 5 _ (by omega)).mono ?_; rintro e w' ⟨wt, hwt, rfl, hw⟩; rw [hw]; clear hw))
  have hW6 : (wt : Int) = 0 ∨ (wt : Int) = 1 ∨ (wt : Int) = 2 ∨ (wt : Int) = 3 ∨ (wt : Int) = 4 ∨ (wt : Int) = 5 := by omega
  clear hwt
  generalize (wt : Int) = W at *
  have hil : i < l.length := by have := HM.out; omega
  have HIL := Lib.hid hil
  have dil : (i : Int) < (l.length : Int) := by omega
  have HRI : Hid (RcAt w3 g (i * 8) (l.getD i default)) := by
    obtain ⟨b', o', e', hat', -⟩ := O3.out.rs.at i hil
    obtain ⟨rfl, rfl, -⟩ := Addr.mk.inj (Option.some.inj e')
    rw [Nat.zero_add] at hat'
    exact hat'
  have HBW3 := Lib.hid O3.out.below
  have HNM := Lib.hid (HK.out.named i hil)
  have HGI : Hid (Gt w3 (l.getD i default).u (l.getD i default).l) := O3.out.2.2.2 _ (getD_mem l i hil)
  have HL10 : Hid ((l.getD i default).l.length ≤ 10) := HF.out.2 _ (getD_mem l i hil)
  go_cut [10] (fun s10 wz => Hid (TuMid w2 s10 wz))
  case first =>
    rcases hW6 with rfl | rfl | rfl | rfl | rfl | rfl
    · skip
      have x0 := HRI.out.c0
      have z0 : w3.frozen? ⟨g, i * 8, none⟩ = false := blk_frozen KG.out _
      go_wp2_with fail
      go_meet
      exact ⟨l.set i { l.getD i default with n := ⟨#[]⟩ }, rs_set (i := i) (j := 0) O3.out KG.out HIL.out (by omega) rfl (gt_set HGI.out KG.out _ _), fit_set HF.out HL10.out, turn_bad HIL.out (Or.inl rfl), HBW3.out.setCell GG.out _⟩
    · skip
      have x0 := HRI.out.c1
      have z0 : w3.frozen? ⟨g, i * 8 + 1, none⟩ = false := blk_frozen KG.out _
      go_wp2_with fail
      go_meet
      exact ⟨l.set i { l.getD i default with p := ((i : Int) + (1 + (nn : Int))) }, rs_set (i := i) (j := 1) O3.out KG.out HIL.out (by omega) rfl (gt_set HGI.out KG.out _ _), fit_set HF.out HL10.out, turn_bad HIL.out (Or.inr (show ¬ (-1 ≤ ((i : Int) + (1 + (nn : Int))) ∧ ((i : Int) + (1 + (nn : Int))) < (i : Int)) by omega)), HBW3.out.setCell GG.out _⟩
    · skip
      have x0 := HRI.out.c1
      have z0 : w3.frozen? ⟨g, i * 8 + 1, none⟩ = false := blk_frozen KG.out _
      go_wp2_with fail
      go_meet
      exact ⟨l.set i { l.getD i default with p := ((-1 : Int) - (1 + (nn : Int))) }, rs_set (i := i) (j := 1) O3.out KG.out HIL.out (by omega) rfl (gt_set HGI.out KG.out _ _), fit_set HF.out HL10.out, turn_bad HIL.out (Or.inr (show ¬ (-1 ≤ ((-1 : Int) - (1 + (nn : Int))) ∧ ((-1 : Int) - (1 + (nn : Int))) < (i : Int)) by omega)), HBW3.out.setCell GG.out _⟩
    · skip
      have hal := Below.refl w3.heap.size w3 |>.alloc (Nat.le_refl _) (.cells #[.int .i64 3, .string ⟨#[114]⟩, .int .i64 0, .string ⟨#[97]⟩] 49 (0, 0))
      have OX := Lib.hid (O3.out.alloc (.cells #[.int .i64 3, .string ⟨#[114]⟩, .int .i64 0, .string ⟨#[97]⟩] 49 (0, 0)))
      have KX := Lib.hid (blk_alloc KG.out (.cells #[.int .i64 3, .string ⟨#[114]⟩, .int .i64 0, .string ⟨#[97]⟩] 49 (0, 0)))
      have x0 := (HRI.out.call hal).c2
      obtain ⟨A7, n7, c7, h7⟩ := HGI.out.1.shape
      rw [h7] at x0
      have z0 : (w3.alloc (.cells #[.int .i64 3, .string ⟨#[114]⟩, .int .i64 0, .string ⟨#[97]⟩] 49 (0, 0))).frozen? ⟨g, i * 8 + 2, none⟩ = false := blk_frozen KX.out _
      have GX : Hid (Gt (w3.alloc (.cells #[.int .i64 3, .string ⟨#[114]⟩, .int .i64 0, .string ⟨#[97]⟩] 49 (0, 0))) (.slice (some ⟨w3.heap.size, 0, none⟩) 2 2) [(3, ⟨#[114]⟩), (0, ⟨#[97]⟩)]) := ⟨gs_new (l := [(3, ⟨#[114]⟩), (0, ⟨#[97]⟩)]) (blk_new w3 _) rfl, fun b o n c e => by cases e; exact ⟨_, _, blk_new w3 _⟩⟩
      have BX := Lib.hid (HBW3.out.alloc HBW3.out.size (.cells #[.int .i64 3, .string ⟨#[114]⟩, .int .i64 0, .string ⟨#[97]⟩] 49 (0, 0)))
      clear hal
      go_wp2_with fail
      go_meet
      exact ⟨l.set i { l.getD i default with u := .slice (some ⟨w3.heap.size, 0, none⟩) 2 2, l := [(3, ⟨#[114]⟩), (0, ⟨#[97]⟩)] }, rs_set (i := i) (j := 2) OX.out KX.out HIL.out (by omega) rfl (gt_set GX.out KX.out _ _), fit_set HF.out (by simp), turn_segs HP.out HIL.out rfl _ _ rfl, BX.out.setCell GG.out _⟩
    · skip
      obtain ⟨rn, hrn⟩ : ∃ rn, rn = (l.getD i default).n := ⟨_, rfl⟩
      have x0 : w3.cell? ⟨g, i * 8, none⟩ = some (.string rn) := by rw [hrn]; exact HRI.out.c0
      have OX := Lib.hid (O3.out.alloc (.cells #[.string rn, .int .i64 (-1), .slice none 0 0, .int .i64 0, .bool false, .int .i64 0, .int .i64 0, .string ⟨#[]⟩] 59 (0, 0)))
      have HF2 : Hid (Fit (l ++ [⟨rn, -1, .slice none 0 0, [], 0, false, 0, 0, ⟨#[]⟩⟩])) := fit_app HF.out (by omega) (by simp)
      have HT2 : Hid (rtB (l ++ [⟨rn, -1, .slice none 0 0, [], 0, false, 0, 0, ⟨#[]⟩⟩]) = false) := turn_twice (by show nmI l rn ≠ -1; rw [hrn, HNM.out]; omega)
      clear hrn
      go_wp2_with (first
        | (at_builtin; refine wpList_appR rfl (.tmp 86) (.tmp 93) rfl rfl OX.out (by omega) w3.heap.size 1 1 [⟨rn, -1, .slice none 0 0, [], 0, false, 0, 0, ⟨#[]⟩⟩] rfl rfl (by omega) (blk_new w3 _) (fun r hr => (by rw [List.mem_singleton] at hr; subst hr; exact gt_nil _)) ?_; intro v8 w8 h8 hg8 hx8; clear hx8; have O8 := Lib.hid h8; obtain ⟨A8, n8, c8, e8⟩ := h8.shape; subst e8; clear h8 hg8))
      go_meet
      exact ⟨_, O8.out.rs, HF2.out, HT2.out, O8.out.below⟩
    · skip
      go_wp2_with fail
      go_loopg [10] 17 (fun gg s10 wr => ∃ xs : List Rc, Hid (OwnR w2.heap.size w2 s10 xs wr) ∧ 1 ≤ xs.length ∧ xs.length ≤ 17 ∧ 17 - xs.length ≤ gg ∧ Hid (∀ r ∈ xs, r.l.length ≤ 10))
      case atStart => exact ⟨l, O3.out, by omega, by omega, by omega, HF.out.2⟩
      case round =>
        obtain ⟨xs, HX, hx1, hx17, hxg, HX10⟩ := hrel
        obtain ⟨A5, c5', e5⟩ := HX.out.rs.len
        subst e5
        by_cases h16 : xs.length ≤ 16
        · have d16 : (xs.length : Int) ≤ 16 := by omega
          have c97 : (97 + (xs.length : Int)) % 256 = 97 + (xs.length : Int) := by omega
          have hcv := one_text (wr.alloc (.cells #[.int .u8 (97 + (xs.length : Int))] 5 (0, 0))) wr.heap.size 1 (97 + (xs.length : Int)) (by rw [blk_cell (blk_new _ _)]; rfl)
          have hDz : (st [97 + (xs.length : Int)]).size = 1 := by rw [st_size]; rfl
          generalize st [97 + (xs.length : Int)] = D at *
          have n9 : ¬ 9223372036854775807 < 1 + D.size := by omega
          obtain ⟨R, hR⟩ : ∃ R : Rc, R = ⟨(⟨#[110]⟩ : ByteArray) ++ D, -1, .slice (some ⟨wr.heap.size + 1, 0, none⟩) 1 1, [(0, ⟨#[113]⟩)], 0, false, 0, 0, ⟨#[]⟩⟩ := ⟨_, rfl⟩
          have OX := Lib.hid (((HX.out.alloc (.cells #[.int .u8 (97 + (xs.length : Int))] 5 (0, 0))).alloc (.cells #[.int .i64 0, .string ⟨#[113]⟩] 49 (0, 0))).alloc (.cells #[.string (⟨#[110]⟩ ++ D), .int .i64 (-1), .slice (some ⟨wr.heap.size + 1, 0, none⟩) 1 1, .int .i64 0, .bool false, .int .i64 0, .int .i64 0, .string ⟨#[]⟩] 59 (0, 0)))
          have GX : Hid (Gt (((wr.alloc (.cells #[.int .u8 (97 + (xs.length : Int))] 5 (0, 0))).alloc (.cells #[.int .i64 0, .string ⟨#[113]⟩] 49 (0, 0))).alloc (.cells #[.string (⟨#[110]⟩ ++ D), .int .i64 (-1), .slice (some ⟨wr.heap.size + 1, 0, none⟩) 1 1, .int .i64 0, .bool false, .int .i64 0, .int .i64 0, .string ⟨#[]⟩] 59 (0, 0))) R.u R.l) := by
            have h9 := blk_alloc (blk_new1 wr (.cells #[.int .u8 (97 + (xs.length : Int))] 5 (0, 0)) (.cells #[.int .i64 0, .string ⟨#[113]⟩] 49 (0, 0))) (.cells #[.string (⟨#[110]⟩ ++ D), .int .i64 (-1), .slice (some ⟨wr.heap.size + 1, 0, none⟩) 1 1, .int .i64 0, .bool false, .int .i64 0, .int .i64 0, .string ⟨#[]⟩] 59 (0, 0))
            rw [hR]
            exact ⟨gs_new (l := [(0, ⟨#[113]⟩)]) h9 rfl, fun b o n c e => by cases e; exact ⟨_, _, h9⟩⟩
          have BX : Hid ((((wr.alloc (.cells #[.int .u8 (97 + (xs.length : Int))] 5 (0, 0))).alloc (.cells #[.int .i64 0, .string ⟨#[113]⟩] 49 (0, 0))).alloc (.cells #[.string (⟨#[110]⟩ ++ D), .int .i64 (-1), .slice (some ⟨wr.heap.size + 1, 0, none⟩) 1 1, .int .i64 0, .bool false, .int .i64 0, .int .i64 0, .string ⟨#[]⟩] 59 (0, 0))).heap[wr.heap.size + 1 + 1]? = some (.cells ([R].flatMap rcC).toArray 59 (0, 0))) := by
            rw [hR]
            exact blk_new2 wr _ _ _
          have HR10 : Hid (R.l.length ≤ 10) := by rw [hR]; show 1 ≤ 10; omega
          clear hR hDz
          go_wp2_with (first
            | (at_builtin; refine wpList_appR rfl (.tmp 39) (.tmp 50) rfl rfl OX.out (by omega) (wr.heap.size + 1 + 1) 1 1 [R] rfl rfl (by omega) BX.out (fun r hr => (by rw [List.mem_singleton] at hr; subst hr; exact GX.out)) ?_; intro v8 w8 h8 hg8 hx8; clear hx8; have O8 := Lib.hid h8; obtain ⟨A8, n8, c8, e8⟩ := h8.shape; subst e8; clear h8 hg8))
          go_roundg (17 - (xs.length + 1))
          case measure => omega
          case rel =>
            refine ⟨xs ++ [R], O8.out, by simp, by simp; omega, by simp, fun r hr => ?_⟩
            rw [List.mem_append] at hr
            rcases hr with hr | hr
            · exact HX10.out r hr
            · rw [List.mem_singleton] at hr; rw [hr]; exact HR10.out
        · have d16 : ¬ (xs.length : Int) ≤ 16 := by omega
          have HT : Hid (rtB xs = false) := turn_many (by omega)
          have HFX : Hid (Fit xs) := ⟨by omega, HX10.out⟩
          go_wp2_with fail
          go_meet
          exact ⟨xs, HX.out.rs, HFX.out, HT.out, HX.out.below⟩
  case rest =>
    obtain ⟨M, hRs, hFit, hRt, hBel⟩ := hcut.out
    have MR := Lib.hid hRs
    have MF := Lib.hid hFit
    have MT := Lib.hid hRt
    have MB := Lib.hid hBel
    have HB2 : Hid (Below w.heap.size w w2) := O2.out.below
    obtain ⟨A9, n9, c9, e9⟩ := hRs.shape
    subst e9
    clear hRs hFit hRt hBel hcut
    have hat0 : RcAt w2 b4 o4 (l.getD 0 default) := by simpa using HAT0.out
    have HAL := Lib.hid ((Below.refl _ wc).alloc (Nat.le_refl _) (.cells #[.string ⟨#[97]⟩] 9 (0, 0)))
    have HBA := Lib.hid (MB.out.trans (HAL.out.mono MB.out.size))
    have MA := Lib.hid (MR.out.call HAL.out)
    generalize (l.getD 0 default) = r0 at *
    have HT0 := Lib.hid hat0
    clear hat0
    have dl0 : (0 : Int) < (l.length : Int) := by omega
    go_wp2_with (first
      | (go_at_call 9; refine (resolve9_no _ M _ _ _ _ MA.out MF.out MT.out).mono ?_; rintro e w4 ⟨rfl, hb4⟩; have M4 := Lib.hid (MA.out.call hb4); have HB4 := Lib.hid (HBA.out.trans (hb4.mono HBA.out.size)); have x4 := (HT0.out.call HB4.out).c0; clear hb4)
      | (go_at_call 16; refine (reverse16 _ M r0.n _ [] _ M4.out MF.out ps_nil9 (by simp) (fun p hp => by simp at hp)).mono ?_; rintro e w5 ⟨v5, rfl, h5, hb5⟩; rw [rv_no MT.out]; have M5 := Lib.hid (M4.out.call hb5); have HB5 := Lib.hid (HB4.out.trans (hb5.mono HB4.out.size)); obtain ⟨A5, n5', c5', e5⟩ := h5.shape; subst e5; clear h5 hb5 x4)
      | (go_at_call 11; refine (right11 _ M _ M5.out MF.out).mono ?_; rintro e w6 ⟨rfl, hb6⟩; rw [MT.out]; have HB6 := Lib.hid (HB5.out.trans (hb6.mono HB5.out.size)); clear hb6)
      | (go_at_call 19; refine (routeRuns_any _).mono ?_; rintro e w7 ⟨rfl, hb7⟩; have HB7 := Lib.hid (HB6.out.trans (hb7.mono HB6.out.size)); clear hb7))
    go_ret
    exact ⟨rfl, HB2.out.trans (HB7.out.mono HB2.out.size)⟩
end Go.Proofs.YtnnmbpghkflepaaGreatDoor
