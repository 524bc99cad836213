/-
  Put together: TvT.
-/
import Derived.Test.YthigandmemifoaaGreatDoorP40
import Derived.Test.YthigandmemifoaaGreatDoorP16
import Derived.Test.YthigandmemifoaaGreatDoorP42
namespace Go.Proofs.YthigandmemifoaaGreatDoor
open Go.RowKit Go.PlainAid
set_option maxRecDepth 100000

def twL : List ByteArray := [⟨#[97]⟩, ⟨#[98]⟩, ⟨#[55]⟩, ⟨#[122, 122]⟩]
theorem tw_tx : ∀ t ∈ twL, txB t = true := by decide +kernel
theorem tw_cell (rr : Nat) (h : rr ≤ 3) : (#[.string ⟨#[97]⟩, .string ⟨#[98]⟩, .string ⟨#[55]⟩, .string ⟨#[122, 122]⟩] : Array Value)[rr]? = some (.string (twL.getD rr default)) := by
  rcases (show rr = 0 ∨ rr = 1 ∨ rr = 2 ∨ rr = 3 by omega) with rfl | rfl | rfl | rfl <;> rfl
theorem tw_mem (rr : Nat) (h : rr ≤ 3) : txB (twL.getD rr default) = true := tw_tx _ (getD_mem twL rr (by simp [twL]; omega))
/-- texts, each behind a / -/
def tsT (ts : List ByteArray) : ByteArray := st (ts.flatMap (fun t => 47 :: bs t))
theorem str_bne' (s : ByteArray) (h : 1 ≤ s.size) : (s.toList == []) = false := by
  have e : ¬ s = ⟨#[]⟩ := fun e => by rw [e] at h; revert h; decide
  have := bs_eq s ⟨#[]⟩
  rw [decide_eq_false e, Lib.toList_data ⟨#[]⟩] at this
  exact this
theorem tsT_next (ts : List ByteArray) (t : ByteArray) : tsT ts ++ ⟨#[47]⟩ ++ t = tsT (ts ++ [t]) := by
  have e1 : (⟨#[47]⟩ : ByteArray) = st [47] := by decide +kernel
  rw [tsT, tsT, e1, List.flatMap_append, st_append]
  have : [t].flatMap (fun t => 47 :: bs t) = [47] ++ bs t := by simp
  rw [this, st_append, st_bs, ByteArray.append_assoc]
theorem enc_tx {t : ByteArray} (h : txB t = true) : encL (bs t) = bs t := by
  rw [txB, Bool.and_eq_true, List.all_eq_true] at h
  have h2 := h.2
  generalize bs t = L at h2
  induction L with
  | nil => rfl
  | cons c L ih =>
    have hc := h2 c (by simp)
    have hp : pl c = true := by
      rw [lc] at hc
      have := of_decide_eq_true hc
      rw [pl]
      exact decide_eq_true (by omega)
    have := ih (fun x hx => h2 x (by simp [hx]))
    show encI c ++ encL L = _
    rw [this, encI, if_pos hp]
    rfl
theorem ts_path {ts : List ByteArray} (h : ∀ t ∈ ts, txB t = true) : pathL ts = ts.flatMap (fun t => 47 :: bs t) := by
  rw [pathL]
  induction ts with
  | nil => rfl
  | cons t ts ih =>
    rw [List.flatMap_cons, List.flatMap_cons, ih (fun x hx => h x (by simp [hx])), segL, enc_tx (h t (by simp))]
theorem ts_right {ts : List ByteArray} (h : ∀ t ∈ ts, txB t = true) (h8 : ts.length ≤ 8) : rightB ts [] = true := by
  rw [rightB, decide_eq_true ⟨h8, by simp⟩, Bool.true_and, List.all_nil, Bool.and_true, List.all_eq_true]
  intro t ht
  have := h t ht
  rw [txB, Bool.and_eq_true] at this
  have := of_decide_eq_true this.1
  exact decide_eq_true (by omega)
theorem ts_prn {ts : List ByteArray} (h : ∀ t ∈ ts, txB t = true) (h8 : ts.length ≤ 8) (hn : ts ≠ []) : prnS ts [] = tsT ts := by
  rw [prnS, if_pos (ts_right h h8), urlL, headL, if_neg hn, ts_path h]
  simp [qryL, tsT]
theorem tsT_size {ts : List ByteArray} (h : ∀ t ∈ ts, txB t = true) : (tsT ts).size ≤ 17 * ts.length := by
  rw [tsT, st_size]
  induction ts with
  | nil => simp
  | cons t r ih =>
    have h1 := ih (fun x hx => h x (by simp [hx]))
    have h2 := tx_le (h t (by simp))
    rw [List.flatMap_cons, List.length_append, List.length_cons, List.length_cons, bs_len]
    omega
theorem ts_nil : prnS [] [] = ⟨#[47]⟩ := by decide +kernel
theorem tsT_ne {ts : List ByteArray} (hn : ts ≠ []) : ((tsT ts).toList == []) = false := by
  have : 1 ≤ (tsT ts).size := by
    rw [tsT, st_size]
    cases ts with
    | nil => exact absurd rfl hn
    | cons t r => rw [List.flatMap_cons, List.length_append, List.length_cons]; omega
  exact str_bne' _ this
theorem sgs_le (l : List Rc) (c : List Nat) (k : Nat) : (sgsOf l (c.take k)).length ≤ (sgsOf l c).length := by
  have : sgsOf l c = sgsOf l (c.take k) ++ sgsOf l (c.drop k) := by rw [sgsOf, sgsOf, sgsOf, ← List.flatMap_append, List.take_append_drop]
  rw [this, List.length_append]
  omega
/-- static segments are words -/
def StTx (l : List Rc) : Prop := ∀ y, y < l.length → ∀ g ∈ (l.getD y default).l, g.1 = 0 → txB g.2 = true
theorem RecOk.sttx {l : List Rc} {ds : List Nat} (h : RecOk l ds) : StTx l := by
  intro y hy g hg h0
  rcases Nat.eq_zero_or_pos y with rfl | hp
  · rw [h.r0.2.2] at hg
    simp at hg
  · obtain ⟨-, -, g', e, hs⟩ := h.step y hp hy
    rw [e, List.mem_singleton] at hg
    subst hg
    rcases hs with ⟨_, hm⟩ | ⟨h1, _⟩
    · exact ks_tx _ hm
    · omega

set_option maxHeartbeats 12800000 in
theorem to14 (v : Value) (l : List Rc) (ds : List Nat) (at' : Int) (A2 : Option Addr) (n2 c2 : Nat) (f2 : Nat → Int) (w : World) (h : Rs w v l) (hok : RecOk l ds) (hi : Ia w A2 n2 f2) :
    Calls Tryz.prog 14 #[v, .int .i64 at', .slice A2 n2 c2] w fun e w' => ∃ ts, e = .returned (.string (prnS ts [])) ∧ rightB ts [] = true ∧ Below w.heap.size w w' := by
  have HS := Lib.hid h
  have HI := Lib.hid hi
  have HP := Lib.hid hok.par
  have HT := Lib.hid hok.sttx
  have hl1 := hok.len1
  have hl8 := hok.len8
  have HFU := Lib.hid (fun i hi => (hok.fuok (l.length) i hi hi).rg)
  obtain ⟨A, cap, rfl⟩ := h.len
  have HW := Lib.hid (within19 at' (l.length - 1) w (by omega))
  have eL : (l.length : Int) - 1 = ((l.length - 1 : Nat) : Int) := by omega
  rw [← eL] at HW
  clear eL
  clear h hok hi
  go_enter Tryz.func14, Tryz.ntmps14
  go_upto_region 2 with (first | (go_at_call 17; refine HW.out.mono ?_; rintro e w' ⟨i, hir, rfl, hww⟩; obtain rfl := hww.symm))
  have hil : i < l.length := by omega
  have X8 := Lib.hid (blk_new w (.cells #[.string ⟨#[97]⟩, .string ⟨#[98]⟩, .string ⟨#[55]⟩, .string ⟨#[122, 122]⟩] 9 (0, 0)))
  go_wp2_with fail
  have B0 := Lib.hid ((Below.refl w.heap.size w).alloc (Nat.le_refl _) (.cells #[.string ⟨#[97]⟩, .string ⟨#[98]⟩, .string ⟨#[55]⟩, .string ⟨#[122, 122]⟩] 9 (0, 0)))
  have HS1 := Lib.hid (HS.out.call B0.out)
  have HI1 := Lib.hid (HI.out.call B0.out)
  generalize w.alloc (.cells #[.string ⟨#[97]⟩, .string ⟨#[98]⟩, .string ⟨#[55]⟩, .string ⟨#[122, 122]⟩] 9 (0, 0)) = w1 at *
  clear HS HI
  go_loopw [10, 11] (fun s10 s11 wr => ∃ (j : Int) (done : List Nat), s11 = .int .i64 j ∧ Hid (OwnI w1.heap.size w1 s10 done wr) ∧ Hid (cpL l j ++ done = chL l (i : Int)) ∧ -1 ≤ j ∧ (done.length : Int) + (j + 1) ≤ (l.length : Int)) (fun _ s11 _ => (intOf s11 + 1).toNat)
  case atStart => exact ⟨i, [], rfl, nilI _ _ _ (Below.refl _ _) (Nat.le_refl _), by show _ = _; rw [cpL, if_pos (by omega), List.append_nil], by omega, by simp; omega⟩
  case round =>
    obtain ⟨j, done, rfl, HO, HC, hj1, hjl⟩ := hrel
    obtain ⟨A5, c5, h5⟩ := HO.out.ni.lenN
    subst h5
    by_cases h0 : 0 ≤ j
    · obtain ⟨k, rfl⟩ : ∃ k : Nat, j = (k : Int) := ⟨j.toNat, by omega⟩
      have hkl : k < l.length := by omega
      have d0 : (k : Int) < (l.length : Int) := by omega
      have d1 : (done.length : Int) ≤ 16 := by omega
      have HB := Lib.hid HO.out.2.1
      obtain ⟨x, o, rfl, hat, -⟩ := HS1.out.at k hkl
      have X1 := Lib.hid hat.c1
      have HN := Lib.hid (HP.out k hkl)
      have HE := Lib.hid (ch_step HP.out k hkl)
      clear hat
      generalize l.getD k default = r at *
      have O1 := Lib.hid (ownI_one' wr w1.heap.size w1 HB.out HO.out.2.2 k)
      have N1 := Lib.hid (HO.out.ni.call ((Below.refl _ wr).alloc (Nat.le_refl _) (.cells #[.int .i64 (k : Int)] 3 (0, 0))))
      have B9 := Lib.hid ((Below.refl wr.heap.size wr).alloc (Nat.le_refl _) (.cells #[.int .i64 (k : Int)] 3 (0, 0)))
      go_wp2_with (first
        | (at_builtin; refine wpList_catI (w := wr.alloc (.cells #[.int .i64 (k : Int)] 3 (0, 0))) rfl (.tmp 33) (.tmp 34) rfl rfl O1.out (by simp) _ done rfl (by omega) N1.out ?_; intro v6 w6 h6 hg6; have H6 := Lib.hid h6; have g1 : w6.cell? ⟨x, o + k * 8 + 1, none⟩ = some (.int .i64 r.p) := (by rw [h6.belowC.cell (World.block_lt_of_cell? w1 _ X1.out)]; exact X1.out); obtain ⟨A6, n6, c6, e6⟩ := h6.shapeC; subst e6; clear h6 hg6))
      go_roundw
      case rel =>
        obtain ⟨n1, n2⟩ := HN.out
        refine ⟨r.p, [k] ++ done, rfl, H6.out, ?_, n1, by simp; omega⟩
        show _ = _
        rw [← HC.out]
        show _ = cpL l (k : Int) ++ done
        rw [cpL, cpL, if_pos h0, HE.out, List.append_assoc]
      case measure => have := HN.out; simp [intOf]; omega
    · have E0 : Hid (done = chL l (i : Int)) := by
        have := HC.out
        rw [cpL, if_neg h0, List.nil_append] at this
        exact this
      have HCH := Lib.hid HO.out.ni
      have B3 := Lib.hid (B0.out.trans (HO.out.2.1.mono B0.out.size))
      have B13 := Lib.hid HO.out.2.1
      have HG8 := Lib.hid (rg_len (HFU.out i hil))
      have hFU : fuL l (i : Nat) = sgsOf l done := by rw [fuL, E0.out]
      rw [hFU] at HG8
      have HLT : Hid (∀ x ∈ done, x < l.length) := by show ∀ x ∈ done, _; rw [E0.out]; exact ch_lt l i
      have hdl : done.length ≤ 16 := by omega
      clear HC E0 hFU HO HFU
      obtain ⟨wx, hwx⟩ : ∃ wx, wx = wr := ⟨_, rfl⟩
      subst hwx
      go_wp2_with fail
      have HSx := Lib.hid (HS1.out.call B13.out)
      have HIx := Lib.hid (HI1.out.call B13.out)
      have Xx := Lib.hid (blk_call X8.out B13.out)
      clear HS1 HI1 X8 B13 B0 hjl hj1
      go_loopw [9, 12, 38] (fun s9 s12 s38 wr => ∃ (k : Nat) (ts : List ByteArray), k ≤ done.length ∧ s9 = .string (tsT ts) ∧ s12 = .int .i64 (ts.length : Int) ∧ s38 = .int .i64 (k : Int) ∧ Hid (∀ t ∈ ts, txB t = true) ∧ Hid (ts.length = (sgsOf l (done.take k)).length) ∧ Hid (Below wx.heap.size wx wr)) (fun _ _ s38 _ => done.length - (intOf s38).toNat)
      case atStart => exact ⟨0, [], Nat.zero_le _, rfl, rfl, rfl, fun t ht => by simp at ht, rfl, Below.refl _ _⟩
      case round =>
        obtain ⟨k, ts, hk, rfl, rfl, rfl, HX, HN, HB⟩ := hrel
        by_cases hlt : k < done.length
        · have d0 : (k : Int) < (done.length : Int) := by omega
          obtain ⟨_, _, e5, -, -, hcc⟩ := HCH.out
          cases e5
          obtain ⟨x, o, rfl, hcell⟩ := hcc k hlt
          clear hcc
          have g0 : wr.cell? ⟨x, o + k, none⟩ = some (.int .i64 (done.getD k 0 : Nat)) := by rw [HB.out.cell (World.block_lt_of_cell? _ _ hcell)]; exact hcell
          have HNX := Lib.hid (sgs_next l done k hlt)
          have hy := HLT.out (done.getD k 0) (by simp [List.getD, hlt])
          clear hcell
          generalize done.getD k 0 = y at *
          obtain ⟨x2, o2, rfl, hat, hgs⟩ := (HSx.out.call HB.out).at y hy
          have g2 := hat.c2
          have GS := Lib.hid hgs
          have HTy := Lib.hid (HT.out y hy)
          have d1 : (y : Int) < (l.length : Int) := by omega
          clear hat hgs
          generalize l.getD y default = r at *
          have hrl8 : r.l.length ≤ 8 := by have h2 := sgs_le l done (k + 1); rw [HNX.out, List.length_append] at h2; have h3 := HG8.out; omega
          obtain ⟨A7, c7, h7, hc7, -, hcs⟩ := GS.out
          have CS := Lib.hid hcs
          clear hcs
          rw [h7] at g2
          clear h7
          obtain ⟨wy, hwy⟩ : ∃ wy, wy = wr := ⟨_, rfl⟩
          subst hwy
          go_wp2_with fail
          go_loopw [9, 12, 48] (fun s9 s12 s48 wr => ∃ (m : Nat) (us : List ByteArray), m ≤ r.l.length ∧ s9 = .string (tsT us) ∧ s12 = .int .i64 (us.length : Int) ∧ s48 = .int .i64 (m : Int) ∧ Hid (∀ t ∈ us, txB t = true) ∧ Hid (us.length = (sgsOf l (done.take k)).length + m) ∧ Hid (Below wy.heap.size wy wr)) (fun _ _ s48 _ => r.l.length - (intOf s48).toNat)
          case atStart => exact ⟨0, ts, Nat.zero_le _, rfl, rfl, rfl, HX.out, HN.out, Below.refl _ _⟩
          case round =>
            obtain ⟨m, us, hm, rfl, rfl, rfl, HY, HM, HD⟩ := hrel
            by_cases hml : m < r.l.length
            · have d2 : (m : Int) < (r.l.length : Int) := by omega
              obtain ⟨x7, o7, rfl, hs1, hs2⟩ := CS.out m hml
              have g3 : wr.cell? ⟨x7, o7 + m * 2, none⟩ = some (.int .i64 (r.l.getD m default).1) := by rw [HD.out.cell (World.block_lt_of_cell? _ _ hs1)]; exact hs1
              have g4 : wr.cell? ⟨x7, o7 + m * 2 + 1, none⟩ = some (.string (r.l.getD m default).2) := by rw [HD.out.cell (World.block_lt_of_cell? _ _ hs2)]; exact hs2
              have HST := Lib.hid (HTy.out (r.l.getD m default) (getD_mem _ m hml))
              clear hs1 hs2
              generalize r.l.getD m default = g at *
              obtain ⟨ga, gb⟩ := g
              dsimp only at g3 g4 HST
              have husl : us.length ≤ 8 := by have h1 := HM.out; have h2 := sgs_le l done (k + 1); rw [HNX.out, List.length_append] at h2; have h3 := HG8.out; omega
              have hz1 := tsT_size HY.out
              have HAL := Lib.hid (HD.out.alloc HD.out.size (.cells #[.int .i64 ga, .string gb] 28 (0, 0)))
              have HTN := Lib.hid (tsT_next us)
              by_cases hg : ga = 0
              · subst hg
                have HG := Lib.hid (HST.out rfl)
                have hz2 := tx_le HG.out
                go_wp2_with fail
                rw [HTN.out gb]
                go_roundw
                case rel =>
                  refine ⟨m + 1, us ++ [gb], by omega, rfl, by simp, by go_num, ?_, ?_, HAL.out⟩
                  · intro t ht
                    rw [List.mem_append, List.mem_singleton] at ht
                    rcases ht with ht | rfl
                    · exact HY.out t ht
                    · exact HG.out
                  · show _ = _
                    rw [List.length_append, HM.out]; simp; omega
                case measure => simp [intOf]; omega
              · have q0 : (ga != 0) = true := by simpa using hg
                have HPK := Lib.hid (fun W (hI : Ia W A2 n2 f2) => pickV30 A2 n2 c2 f2 us.length (pickV n2 f2 us.length) W hI rfl)
                have HIr := Lib.hid ((HIx.out.call HB.out).call HAL.out)
                obtain ⟨wq, hwq⟩ : ∃ wq, wq = wr.alloc (.cells #[.int .i64 ga, .string gb] 28 (0, 0)) := ⟨_, rfl⟩
                have HWI := Lib.hid (fun W => within19 (pickV n2 f2 us.length) 3 W (by omega))
                have XW := Lib.hid (blk_call (blk_call Xx.out HB.out) HAL.out)
                generalize pickV n2 f2 us.length = pv at *
                go_wp2_with (first
                  | (go_at_call 27; refine (HPK.out _ HIr.out).mono ?_; rintro e wp ⟨rfl, hwp⟩; subst hwp)
                  | (go_at_call 17; refine (HWI.out _).mono ?_; rintro e wp ⟨rr, hrr, rfl, hwp⟩; subst hwp; have hcw : (wr.alloc (.cells #[.int .i64 ga, .string gb] 28 (0, 0))).cell? ⟨w.heap.size, rr, none⟩ = some (.string (twL.getD rr default)) := (by rw [blk_cell XW.out]; exact tw_cell rr hrr); have HG := Lib.hid (tw_mem rr hrr); have hz2 := tx_le HG.out; generalize twL.getD rr default = tt at *))
                rw [HTN.out tt]
                go_roundw
                case rel =>
                  refine ⟨m + 1, us ++ [tt], by omega, rfl, by simp, by go_num, ?_, ?_, HAL.out⟩
                  · intro t ht
                    rw [List.mem_append, List.mem_singleton] at ht
                    rcases ht with ht | rfl
                    · exact HY.out t ht
                    · exact HG.out
                  · show _ = _
                    rw [List.length_append, HM.out]; simp; omega
                case measure => simp [intOf]; omega
            · obtain rfl : m = r.l.length := by omega
              go_wp2_with fail
              go_roundw
              case rel =>
                refine ⟨k + 1, us, by omega, rfl, rfl, by go_num, HY.out, ?_, HB.out.trans (HD.out.mono HB.out.size)⟩
                show _ = _
                rw [HNX.out, List.length_append]; exact HM.out
              case measure => simp [intOf]; omega
        · obtain rfl : k = done.length := by omega
          rw [List.take_length] at HN
          have h8 : ts.length ≤ 8 := by have := HN.out; have := HG8.out; omega
          have HR8 := Lib.hid (ts_right HX.out h8)
          by_cases hts : ts = []
          · subst hts
            have e0 : ((tsT []).toList == []) = true := by decide +kernel
            go_wp2_with fail
            go_ret
            exact ⟨[], by rw [ts_nil]; rfl, HR8.out, B3.out.trans (HB.out.mono B3.out.size)⟩
          · have e0 := tsT_ne hts
            have HPN := Lib.hid (ts_prn HX.out h8 hts)
            go_wp2_with fail
            go_ret
            exact ⟨ts, by rw [HPN.out]; rfl, HR8.out, B3.out.trans (HB.out.mono B3.out.size)⟩
end Go.Proofs.YthigandmemifoaaGreatDoor
