/-
  Put together: TvB, TvF6.
-/
import Derived.Test.YthigandmemifoaaGreatDoorP40
import Derived.Laws.CopyOwn
import Derived.Test.YthigandmemifoaaGreatDoorP44
import Derived.Test.YthigandmemifoaaGreatDoorP29
namespace Go.Proofs.YthigandmemifoaaGreatDoor
open Go.RowKit Go.PlainAid
set_option maxRecDepth 100000

theorem range_self (L : List Bool) : [] ++ (List.range L.length).map (fun i => L.getD i false) = L := by
  rw [List.nil_append]
  apply List.ext_getElem?
  intro i
  by_cases h : i < L.length
  · simp [List.getD, h]
  · simp [List.getElem?_eq_none (show L.length ≤ i by omega), List.getElem?_eq_none (show (List.range L.length).length ≤ i by simpa using h)]
theorem stB_more {L : List Bool} {k : Nat} {i : Int} (h : fsB L.length (fun j => L.getD j false) i = true) : fsB L.length (fun j => (L.set k true).getD j false) i = true := by
  by_cases h0 : 0 ≤ i
  · obtain ⟨j, rfl⟩ : ∃ j : Nat, i = (j : Int) := ⟨i.toNat, by omega⟩
    by_cases h1 : j < L.length
    · rw [stB_nat h1] at h ⊢
      by_cases e : k = j
      · subst e
        simp [List.getD, h1]
      · simpa [List.getD, e] using h
    · rw [stB_big (by omega)] at h
      cases h
  · rw [stB_neg h0] at h
    cases h
theorem say_more {k : Int} {s s' : Bool} (h : s = true → s' = true) (h0 : sayI k s = 0) : sayI k s' = 0 := by
  cases s
  · rcases kinds k with rfl | rfl | rfl | rfl | rfl | ⟨k0, k1, k2, k3, k4⟩
    · rfl
    · cases h0
    · cases h0
    · cases h0
    · cases h0
    · simp [sayI, k0, k2, k3, k4] at h0
  · rw [h rfl]
    exact h0

theorem sy_more (l : List Rc) (n : Nat) (g g2 : Nat → Bool) (hm : ∀ i, fsB n g i = true → fsB n g2 i = true) (c : List Nat) (h : (syL l n g c).1 = 0) : (syL l n g2 c).1 = 0 := by
  induction c with
  | nil => rfl
  | cons k c ih =>
    rw [syL] at h ⊢
    by_cases h0 : sayI (l.getD k default).rk (fsB n g (l.getD k default).rf) = 0
    · rw [if_pos h0] at h
      rw [if_pos (say_more (hm _) h0)]
      exact ih h
    · rw [if_neg h0] at h
      exact absurd h h0
def qa : Pr := (⟨#[97]⟩, ⟨#[49]⟩)
theorem qa_right {ts : List ByteArray} (h : rightB ts [] = true) : rightB ts [qa] = true := by
  rw [rightB, Bool.and_eq_true] at h ⊢
  have h1 := of_decide_eq_true h.1
  rw [Bool.and_eq_true] at h
  refine ⟨decide_eq_true ⟨h1.1, by simp⟩, ?_⟩
  rw [Bool.and_eq_true]
  exact ⟨h.2.1, by decide +kernel⟩
theorem qa_prn {ts : List ByteArray} (h : rightB ts [] = true) : prnS ts [] ++ ⟨#[63, 97, 61, 49]⟩ = prnS ts [qa] := by
  rw [prnS, if_pos h, prnS, if_pos (qa_right h)]
  have e : (⟨#[63, 97, 61, 49]⟩ : ByteArray) = st (qryL [qa]) := by decide +kernel
  rw [e, ← st_append, urlL, urlL]
  simp [qryL]
theorem qa_get : gtB [qa] ⟨#[97]⟩ = true ∧ gtS [qa] ⟨#[97]⟩ = ⟨#[49]⟩ := by decide +kernel
theorem no_get : gtB [] ⟨#[97]⟩ = false ∧ gtS [] ⟨#[97]⟩ = ⟨#[]⟩ := by decide +kernel
def FlA (R Q R3 : Int × Pl) : Prop := R.1 = 0 ∧ R.2.h = 0 ∧ Q.1 = 0 ∧ Q.2.h = 0 ∧ Q.2.i = R.2.i ∧ R3.1 = 0 ∧ R3.2.h = 0 ∧ R3.2.i = R.2.i ∧ R3.2.q = [qa]
def FlB (R R3 : Int × Pl) : Prop := R.1 = 0 ∧ R.2.h ≠ 0 ∧ R3.1 = 0 ∧ R3.2.h = R.2.h ∧ R3.2.i = R.2.i ∧ R3.2.q = []
def FlC (R R3 : Int × Pl) : Prop := R.1 ≠ 0 ∧ R3.1 = R.1 ∧ R3.2.q = []
theorem fl_at {l : List Rc} {n : Nat} {g g2 : Nat → Bool} (hm : ∀ i, fsB n g i = true → fsB n g2 i = true) {ts : List ByteArray} (ht : rightB ts [] = true) : FlA (goS l n g (prnS ts [])) (goS l n g2 (prnS ts [])) (goS l n g (prnS ts [qa])) ∨ FlB (goS l n g (prnS ts [])) (goS l n g (prnS ts [qa])) ∨ FlC (goS l n g (prnS ts [])) (goS l n g (prnS ts [qa])) := by
  rw [goS_prn l n g ht, goS_prn l n g2 ht, goS_prn l n g (qa_right ht)]
  obtain ⟨b1, b2, b3⟩ := goM_query l n g ts [] [qa]
  rcases goM_ends l n g (qa_right ht) with ⟨e1, p, q, h', a1, a2, a3, a4, a5, a6, a7, a8⟩ | ⟨e2, e1⟩
  · have eh : (goM l n g ts [qa]).2.h = h' := by rw [a3]
    have ei : (goM l n g ts [qa]).2.i = fdI l p := by rw [a3, fdP_yes q a2]
    have eq' : (goM l n g ts [qa]).2.q = q := by rw [a3, fdP_yes q a2]
    by_cases hz : h' = 0
    · have e := a7 hz
      by_cases hb : fdB l ts = true
      · rw [fdP_yes [qa] hb, fdP_yes q a2] at e
        have f1 := congrArg Pl.p e
        have f2 := congrArg Pl.q e
        simp only at f1 f2
        subst f1
        rw [← f2] at eq'
        have hs : (syL l n g2 (fdP l ts []).c).1 = 0 := by
          rw [fdP_yes [] hb]
          rw [fdP_yes q a2] at a6
          exact sy_more l n g g2 hm _ a6
        have hq := goM_stay (q := []) hb hs
        refine Or.inl ⟨by rw [← b1, e1], by rw [← b3, eh, hz], by rw [hq], by rw [hq], ?_, e1, by rw [eh, hz], b2, eq'⟩
        rw [hq, ← b2, ei, fdP_yes [] hb]
      · have hb : fdB l ts = false := by simpa using hb
        rw [goM, hb, goL] at e1
        simp at e1
    · exact Or.inr (Or.inl ⟨by rw [← b1, e1], by rw [← b3, eh]; exact hz, e1, b3, b2, by rw [eq']; exact a8 hz⟩)
  · exact Or.inr (Or.inr ⟨by rw [← b1]; omega, b1, by rw [e2]; rfl⟩)

/-! flags of the call's own -/
@[go_sem] theorem mk8 (w : World) : (Instr.makeSlice 47 (.int .i64 8) (.int .i64 8)).run Tryz.prog w = .ok (.slice (some ⟨w.heap.size, 0, none⟩) 8 8) (w.alloc (.cells #[.bool false, .bool false, .bool false, .bool false, .bool false, .bool false, .bool false, .bool false] 4 (0, 0))) := by kernel_rfl
/-- the first m of g, and falses behind: eight -/
def flF (g : Nat → Bool) (m : Nat) : List Bool := (List.range m).map g ++ List.replicate (8 - m) false
theorem flF_len (g : Nat → Bool) (m : Nat) (h : m ≤ 8) : (flF g m).length = 8 := by simp [flF]; omega
theorem flF_splice (g : Nat → Bool) (m : Nat) : splice [.bool false, .bool false, .bool false, .bool false, .bool false, .bool false, .bool false, .bool false] 0 ((List.range m).map (fun i => Value.bool (g i))) = (flF g m).map Value.bool := by
  have e : ([.bool false, .bool false, .bool false, .bool false, .bool false, .bool false, .bool false, .bool false] : List Value) = List.replicate 8 (.bool false) := rfl
  rw [splice, flF, e, List.map_append, List.map_replicate, List.map_map, List.take_zero, List.nil_append, List.drop_replicate]
  simp
theorem bs8 {w : World} {b : Nat} {FL : List Bool} (h : w.heap[b]? = some (.cells (FL.map Value.bool).toArray 4 (0, 0))) (hl : FL.length = 8) : Bs w (.slice (some ⟨b, 0, none⟩) 8 8) 8 (fun i => FL.getD i false) := by
  refine ⟨_, _, rfl, Nat.le_refl _, (fun h => by cases h), fun i hi => ⟨b, 0, rfl, ?_⟩⟩
  rw [blk_cell h]
  simp [List.getD, hl, hi]

/-- copy(fs, flags[:m]) into eight falses -/
theorem wpList_copyB {ops : Array Oper} {rest : List Oper} {o : Oper} {a : Act} {Q : Exit → Act → World → Prop} {w : World} (hgd : o.guard = none) (d s : Operand)
    (ho : o.op = .call { callee := .builtin .copy, args := #[d, s], argTypes := #[47, 47] }) {b : Nat} (hX : w.heap[b]? = some (.cells #[.bool false, .bool false, .bool false, .bool false, .bool false, .bool false, .bool false, .bool false] 4 (0, 0))) {A : Option Addr} {mk cf : Nat} {g : Nat → Bool}
    (hd : a.eval d = .slice (some ⟨b, 0, none⟩) 8 8) (hs : a.eval s = .slice A mk cf) (hB : Bs w (.slice A mk cf) mk g) (hm : mk ≤ 8) {B : Nat} {w0 : World} (hb : Below B w0 w) (hBg : B ≤ b)
    (h : ∀ w', w'.heap[b]? = some (.cells ((flF g mk).map Value.bool).toArray 4 (0, 0)) → Below B w0 w' → wpList Tryz.prog ops Q rest (a.put o.dst (goInt mk)) w') : wpList Tryz.prog ops Q (o :: rest) a w := by
  have hlen : ((List.range mk).map (fun i => Value.bool (g i))).length = mk := by simp
  refine Go.wpList_copy_splice hgd d s 47 47 ho 4 Tryz.underlying47 (by kernel_rfl) _ _ _ _ _ _ hd hs b 0 _ 4 hX ((List.range mk).map (fun i => Value.bool (g i))) (hlen.trans (Nat.min_eq_left hm).symm) ?_ (by rw [hlen]; simpa using hm) ?_ B w0 hb hBg ?_
  · intro hp
    refine ⟨rfl, ?_⟩
    obtain ⟨A', c', e', -, -, h4⟩ := hB
    cases e'
    obtain ⟨b', o', ha, -⟩ := h4 0 (by omega)
    refine ⟨⟨b', o', none⟩, ha, fun j v hv => ?_⟩
    have hj : j < mk := by have := (List.getElem?_eq_some_iff.1 hv).1; simpa using this
    obtain ⟨b'', o'', ha', hc⟩ := h4 j hj
    rw [ha] at ha'
    cases ha'
    rw [Addr.add_lit, hc, ← hv]
    simp [hj]
  · intro v hv
    simp at hv
    obtain ⟨i, _, rfl⟩ := hv
    rfl
  · intro w' h1 h2
    have h1 := h1.out
    rw [flF_splice] at h1
    rw [hlen]
    exact h w' h1 h2
end Go.Proofs.YthigandmemifoaaGreatDoor

namespace Go.Proofs.YthigandmemifoaaGreatDoor
open Go.RowKit Go.PlainAid
set_option maxRecDepth 100000

set_option maxHeartbeats 25600000 in
theorem travelFlags6 (w : World) (at' nn : Int) {A0 A1 A2 A3 A4 A5 A6 D1 : Option Addr} {n0 n1 n2 n3 n4 n5 n6 c0 c1 c2 c3 c4 c5 c6 m1 e1 nf : Nat} {f0 f1 f2 f3 f4 f5 f6 g1 : Nat → Int} {fv : Value} {g : Nat → Bool} (h0 : Ia w A0 n0 f0) (h1 : Ia w A1 n1 f1) (h2 : Ia w A2 n2 f2) (h3 : Ia w A3 n3 f3) (h4 : Ia w A4 n4 f4) (h5 : Ia w A5 n5 f5) (h6 : Ia w A6 n6 f6) (u1 : Ia w D1 m1 g1) (k0 : Bs w fv nf g) :
    Calls Tryz.prog 6 #[.agg #[.slice A0 n0 c0, .slice A1 n1 c1, .slice A2 n2 c2, .slice A3 n3 c3, .slice A4 n4 c4, .slice A5 n5 c5, .slice A6 n6 c6], .int .i64 at', .slice D1 m1 e1, fv, .int .i64 nn] w fun e w' => e = .returned (.bool true) ∧ Below w.heap.size w w' := by
  obtain ⟨Af, cf, rfl⟩ := k0.shape
  have hcA : (0 : Int) ≤ min (nf : Int) 8 := by omega
  have hcB : min (nf : Int) 8 ≤ (cf : Int) := by have := k0.cap; omega
  have hcC : (min (nf : Int) 8).toNat ≤ nf := by omega
  have hcD : (min (nf : Int) 8).toNat ≤ 8 := by omega
  have HB := Lib.hid ((Below.refl w.heap.size w).alloc (Nat.le_refl _) (.cells #[.slice A0 n0 c0, .slice A1 n1 c1, .slice A2 n2 c2, .slice A3 n3 c3, .slice A4 n4 c4, .slice A5 n5 c5, .slice A6 n6 c6] 44 (0, 0)))
  have XK := Lib.hid (blk_new w (.cells #[.slice A0 n0 c0, .slice A1 n1 c1, .slice A2 n2 c2, .slice A3 n3 c3, .slice A4 n4 c4, .slice A5 n5 c5, .slice A6 n6 c6] 44 (0, 0)))
  have HRC := Lib.hid (records7 (w.alloc (.cells #[.slice A0 n0 c0, .slice A1 n1 c1, .slice A2 n2 c2, .slice A3 n3 c3, .slice A4 n4 c4, .slice A5 n5 c5, .slice A6 n6 c6] 44 (0, 0))) (c0 := c0) (c1 := c1) (c2 := c2) (c3 := c3) (c4 := c4) (c5 := c5) (c6 := c6) (h0.call HB.out) (h1.call HB.out) (h2.call HB.out) (h3.call HB.out) (h4.call HB.out) (h5.call HB.out) (h6.call HB.out))
  have HU := Lib.hid (u1.call HB.out)
  have HF := Lib.hid (k0.call HB.out)
  clear h0 h1 h2 h3 h4 h5 h6 u1 k0
  go_enter Tryz.func6, Tryz.ntmps6
  go_upto_region 1 with fail
  generalize w.alloc (.cells #[.slice A0 n0 c0, .slice A1 n1 c1, .slice A2 n2 c2, .slice A3 n3 c3, .slice A4 n4 c4, .slice A5 n5 c5, .slice A6 n6 c6] 44 (0, 0)) = w1 at *
  have x0 : w1.cell? ⟨w.heap.size, 0, none⟩ = some (.slice A0 n0 c0) := by rw [blk_cell XK.out]; rfl
  have x1 : w1.cell? ⟨w.heap.size, 1, none⟩ = some (.slice A1 n1 c1) := by rw [blk_cell XK.out]; rfl
  have x2 : w1.cell? ⟨w.heap.size, 2, none⟩ = some (.slice A2 n2 c2) := by rw [blk_cell XK.out]; rfl
  have x3 : w1.cell? ⟨w.heap.size, 3, none⟩ = some (.slice A3 n3 c3) := by rw [blk_cell XK.out]; rfl
  have x4 : w1.cell? ⟨w.heap.size, 4, none⟩ = some (.slice A4 n4 c4) := by rw [blk_cell XK.out]; rfl
  have x5 : w1.cell? ⟨w.heap.size, 5, none⟩ = some (.slice A5 n5 c5) := by rw [blk_cell XK.out]; rfl
  have x6 : w1.cell? ⟨w.heap.size, 6, none⟩ = some (.slice A6 n6 c6) := by rw [blk_cell XK.out]; rfl
  go_upto_region 2 with (first | (go_at_call 10; refine HRC.out.mono ?_; rintro e w2 ⟨v1, L, ds, rfl, ho, hok⟩; have HO := Lib.hid ho.rs; have B2 := Lib.hid ho.below; have HK := Lib.hid hok; obtain ⟨P4, p4, q4, e4⟩ := ho.shape; subst e4; clear ho hok))
  clear x0 x1 x2 x3 x4 x5 x6 XK HRC
  have HU2 := Lib.hid (HU.out.call B2.out)
  have HF2 := Lib.hid (HF.out.call B2.out)
  have B02 := Lib.hid (HB.out.trans (B2.out.mono HB.out.size))
  clear HF HU HB B2
  have HTO := Lib.hid (to14 _ L ds at' D1 m1 e1 g1 w2 HO.out HK.out HU2.out)
  have hL8 := HK.out.len8
  go_upto_region 4 with (first | (go_at_call 14; refine HTO.out.mono ?_; rintro e w3 ⟨ts, rfl, hts, hb3⟩; have HTS := Lib.hid hts; have B3 := Lib.hid hb3; clear hts hb3))
  have B34 := Lib.hid ((Below.refl w3.heap.size w3).alloc (Nat.le_refl _) (.cells #[.bool false, .bool false, .bool false, .bool false, .bool false, .bool false, .bool false, .bool false] 4 (0, 0)))
  have X13 := Lib.hid (blk_new w3 (.cells #[.bool false, .bool false, .bool false, .bool false, .bool false, .bool false, .bool false, .bool false] 4 (0, 0)))
  generalize w3.alloc (.cells #[.bool false, .bool false, .bool false, .bool false, .bool false, .bool false, .bool false, .bool false] 4) = w4 at *
  have HF4 := Lib.hid ((HF2.out.call B3.out).call B34.out)
  have HB4 := Lib.hid (HF4.out.take _ hcC)
  generalize hmm : (min (nf : Int) 8).toNat = mk at *
  go_upto_region 5 with (first | (refine wpList_copyB rfl (.tmp 30) (.tmp 35) rfl X13.out rfl rfl HB4.out hcD (B := w3.heap.size) (w0 := w3) B34.out (Nat.le_refl _) ?_; intro w5 h5 hb5; have X5 := Lib.hid h5; have B5 := Lib.hid hb5; clear h5 hb5))
  have HL8 : Hid ((flF g mk).length = 8) := flF_len g mk hcD
  generalize flF g mk = FL at *
  have HS5 := Lib.hid ((HO.out.call B3.out).call B5.out)
  obtain ⟨gF, hgF⟩ : ∃ gF : Nat → Bool, gF = fun i => FL.getD i false := ⟨_, rfl⟩
  have HG5 : Hid (Bs w5 (.slice (some ⟨w3.heap.size, 0, none⟩) 8 8) 8 gF) := by rw [hgF]; exact bs8 X5.out HL8.out
  have B05 := Lib.hid (B02.out.trans ((B3.out.trans (B5.out.mono B3.out.size)).mono B02.out.size))
  have HRS : Hid ([] ++ (List.range 8).map gF = FL) := by
    have := range_self FL
    rw [HL8.out] at this
    rw [hgF]
    exact this
  clear HO B3 B5 B34 X13 HF4 HB4 HF2 HU2 HTO B02 hcA hcB hcC hcD hmm X5
  generalize w3.heap.size = XF at *
  have HGO := Lib.hid (fun (p : List ByteArray) (q : List Pr) (W : World) (hb : Below w5.heap.size w5 W) => go7 _ L (prnS p q) _ 8 gF W (HS5.out.call hb) HK.out.fit (by have := prn_size' p q; omega) (HG5.out.call hb))
  have HG1 := Lib.hid (HGO.out ts [] w5 (Below.refl _ _))
  have HG3 := Lib.hid (fun (W : World) (hb : Below w5.heap.size w5 W) => HGO.out ts [qa] W hb)
  rw [← qa_prn HTS.out] at HG3
  have HFA : Hid (∀ g2 : Nat → Bool, (∀ i, fsB 8 gF i = true → fsB 8 g2 i = true) → _) := Lib.hid (fun g2 hm => @fl_at L 8 gF g2 hm ts HTS.out)
  rw [← qa_prn HTS.out] at HFA
  generalize goS L 8 gF (prnS ts [] ++ ⟨#[63, 97, 61, 49]⟩) = R3 at *
  generalize goS L 8 gF (prnS ts []) = R at *
  have HTZ := Lib.hid (prn_size' ts [])
  go_upto_region 6 with (first | (go_at_call 7; refine HG1.out.mono ?_; rintro e w6 ⟨v1, v2, v3, v4, rfl, hp, hb⟩; have HP := Lib.hid hp; have B6 := Lib.hid hb; obtain ⟨p1, p5, pa, p2, p6, pb, p3, p7, pc, p4', p8, pd, q1, q2, q3, q4'⟩ := hp.shape; subst q1 q2 q3 q4'; clear hp hb))
  have X14 := Lib.hid (blk_new w6 (.cells #[.slice p1 p5 pa, .slice p2 p6 pb, .int .i64 R.2.i, .slice p3 p7 pc, .slice p4' p8 pd, .int .i64 R.2.h] 36 (0, 0)))
  have B7 := Lib.hid (B6.out.alloc B6.out.size (.cells #[.slice p1 p5 pa, .slice p2 p6 pb, .int .i64 R.2.i, .slice p3 p7 pc, .slice p4' p8 pd, .int .i64 R.2.h] 36 (0, 0)))
  generalize w6.alloc (.cells #[.slice p1 p5 pa, .slice p2 p6 pb, .int .i64 R.2.i, .slice p3 p7 pc, .slice p4' p8 pd, .int .i64 R.2.h] 36 (0, 0)) = w7 at *
  clear HP B6 HG1
  generalize w6.heap.size = Y at *
  have HG7 := Lib.hid ((HG5.out.call B7.out).call ((Below.refl w7.heap.size w7).alloc (Nat.le_refl _) (.cells #[] 4 (0, 0))))
  have OE := Lib.hid (empB w7.heap.size w7 w7 (Below.refl _ _) (Nat.le_refl _))
  go_upto_region 7 with (first | (at_builtin; refine wpList_catB _ rfl (.tmp 44) (.tmp 45) rfl w7.heap.size w7 _ _ rfl OE.out (by simp) _ 8 gF rfl (by omega) HG7.out ?_; intro v8 w8 h8 _; rw [HRS.out] at h8; have O8 := Lib.hid h8; obtain ⟨gb, cap8, e8, hgb, hcl, hfr⟩ := h8.box (by rw [HL8.out]; omega); rw [HL8.out] at e8 hcl; subst e8; clear h8))
  have HWI := Lib.hid (within19 nn 7 w8 (by omega))
  have hlt8 : w7.heap.size ≤ w8.heap.size := O8.out.2.1.size
  go_upto_region 8 with (first | (go_at_call 17; refine HWI.out.mono ?_; rintro e wp ⟨rr, hrr, rfl, hww⟩; obtain rfl := hww.symm; have hc9 := hcl rr (by omega); have hf9 := hfr rr))
  have O9 := Lib.hid (O8.out.set rr true)
  have hl9 : Hid ((FL.set rr true).length = 8) := by show _ = _; rw [List.length_set]; exact HL8.out
  have B9 := Lib.hid (B7.out.trans (O9.out.2.1.mono B7.out.size))
  have HMM : Hid (∀ i, fsB 8 gF i = true → fsB 8 (fun j => (FL.set rr true).getD j false) i = true) := by
    intro i hi
    rw [hgF] at hi
    have := @stB_more FL rr i
    rw [HL8.out] at this
    exact this hi
  obtain ⟨gM, hgM⟩ : ∃ gM : Nat → Bool, gM = fun j => (FL.set rr true).getD j false := ⟨_, rfl⟩
  have HG9 := Lib.hid O9.out.bs
  rw [hl9.out, ← hgM] at HG9
  rw [← hgM] at HMM
  have HFQ := Lib.hid (HFA.out gM HMM.out)
  clear hcl hfr hc9 hf9 O8 hgM HWI HFA HMM hgF HRS OE HG7
  generalize w8.setCell ⟨gb, rr, none⟩ (.bool true) = w9 at *
  have HGQ := Lib.hid (go7 _ L (prnS ts []) _ 8 gM w9 (HS5.out.call B9.out) HK.out.fit (by have := HTZ.out; omega) HG9.out)
  generalize goS L 8 gM (prnS ts []) = Q at *
  go_upto_region 9 with (first | (go_at_call 7; refine HGQ.out.mono ?_; rintro e wa ⟨v1, v2, v3, v4, rfl, hp, hb⟩; have Ba := Lib.hid (O9.out.2.1.trans (hb.mono O9.out.2.1.size)); obtain ⟨r1, r5, ra, r2, r6, rb, r3, r7, rc, r4, r8, rd, q1, q2, q3, q4'⟩ := hp.shape; subst q1 q2 q3 q4'; clear hp hb))
  have Bb := Lib.hid (Ba.out.alloc Ba.out.size (.cells #[.slice r1 r5 ra, .slice r2 r6 rb, .int .i64 Q.2.i, .slice r3 r7 rc, .slice r4 r8 rd, .int .i64 Q.2.h] 36 (0, 0)))
  have X17 := Lib.hid (blk_new wa (.cells #[.slice r1 r5 ra, .slice r2 r6 rb, .int .i64 Q.2.i, .slice r3 r7 rc, .slice r4 r8 rd, .int .i64 Q.2.h] 36 (0, 0)))
  generalize wa.alloc (.cells #[.slice r1 r5 ra, .slice r2 r6 rb, .int .i64 Q.2.i, .slice r3 r7 rc, .slice r4 r8 rd, .int .i64 Q.2.h] 36 (0, 0)) = wb at *
  generalize wa.heap.size = Z at *
  clear HG9 O9 HGQ Ba
  have B5b := Lib.hid (B7.out.trans (Bb.out.mono B7.out.size))
  have X14b := Lib.hid (blk_call X14.out Bb.out)
  obtain ⟨⟨x0, x1, x2, x3, x4, x5⟩, -⟩ := blk6 X14b.out
  obtain ⟨⟨y0, y1, y2, y3, y4, y5⟩, -⟩ := blk6 X17.out
  have HG3b := Lib.hid (HG3.out wb B5b.out)
  have HG3c : Hid (Calls Tryz.prog 7 #[.slice P4 p4 q4, .string (prnS ts [] ++ ⟨#[63, 97, 61, 49]⟩), .slice (some ⟨XF, 0, none⟩) 8 8] wb fun e w' => ∃ s1 s5 sa s2 s6 sb s3 s7 sc s4 s8 sd, e = .returned (.tuple #[.agg #[.slice s1 s5 sa, .slice s2 s6 sb, .int .i64 R3.2.i, .slice s3 s7 sc, .slice s4 s8 sd, .int .i64 R3.2.h], .int .i64 R3.1]) ∧ Ss w' (.slice s1 s5 sa) R3.2.p ∧ Ps w' (.slice s2 s6 sb) R3.2.q ∧ Below wb.heap.size wb w') := by
    refine HG3b.out.mono ?_
    rintro e w' ⟨v1, v2, v3, v4, rfl, hp, hb⟩
    obtain ⟨s1, s5, sa, s2, s6, sb, s3, s7, sc, s4, s8, sd, q1, q2, q3, q4'⟩ := hp.shape
    subst q1 q2 q3 q4'
    exact ⟨s1, s5, sa, s2, s6, sb, s3, s7, sc, s4, s8, sd, rfl, hp.1, hp.2.1, hb⟩
  clear HG3b HG3
  have hsz := HTZ.out
  rcases HFQ.out with hA | hB | hC
  · obtain ⟨a1, a2, a3, a4, a5, a6, a7, a8, a9⟩ := hA
    clear HFQ
    generalize R.1 = re at *
    generalize R.2.i = ri at *
    generalize R.2.h = rh at *
    generalize Q.1 = qe at *
    generalize Q.2.i = qi at *
    generalize Q.2.h = qh at *
    generalize R3.1 = se at *
    generalize R3.2.i = si at *
    generalize R3.2.h = sh at *
    generalize R3.2.q = sq at *
    generalize R3.2.p = sp at *
    subst a1 a2 a3 a4 a5 a6 a7 a8 a9
    have hri : (si != si) = false := by simp
    go_wp2_with (first
      | (go_at_call 7; refine HG3c.out.mono ?_; rintro e wc ⟨s1, s5, sa, s2, s6, sb, s3, s7, sc, s4, s8, sd, rfl, hsp, hsq, hb⟩; have HSP := Lib.hid hsp; have HSQ := Lib.hid hsq; have Bc := Lib.hid (B5b.out.trans (hb.mono B5b.out.size)); have X14c := Lib.hid (blk_call X14b.out hb); clear hsp hsq
         have Bd := Lib.hid (Bc.out.alloc Bc.out.size (.cells #[.slice s1 s5 sa, .slice s2 s6 sb, .int .i64 si, .slice s3 s7 sc, .slice s4 s8 sd, .int .i64 0] 36 (0, 0))); have Dcd := Lib.hid ((Below.refl wc.heap.size wc).alloc (Nat.le_refl _) (.cells #[.slice s1 s5 sa, .slice s2 s6 sb, .int .i64 si, .slice s3 s7 sc, .slice s4 s8 sd, .int .i64 0] 36 (0, 0))); obtain ⟨⟨z0, z1, z2, z3, z4, z5⟩, -⟩ := blk6 (blk_new wc (.cells #[.slice s1 s5 sa, .slice s2 s6 sb, .int .i64 si, .slice s3 s7 sc, .slice s4 s8 sd, .int .i64 0] 36 (0, 0))); obtain ⟨⟨x0, x1, x2, x3, x4, x5⟩, -⟩ := blk6 (blk_alloc X14c.out (.cells #[.slice s1 s5 sa, .slice s2 s6 sb, .int .i64 si, .slice s3 s7 sc, .slice s4 s8 sd, .int .i64 0] 36 (0, 0))); clear hb)
      | (go_at_call 18; refine (get45 _ _ _ _ ⟨#[97]⟩ _ (HSP.out.call Dcd.out) (HSQ.out.call Dcd.out) (by simp)).mono ?_; rintro e wd ⟨rfl, hb⟩; have Be := Lib.hid (Bd.out.trans (hb.mono Bd.out.size)); rw [qa_get.1, qa_get.2]; obtain ⟨⟨z0, z1, z2, z3, z4, z5⟩, -⟩ := blk6 (blk_call (blk_new wc (.cells #[.slice s1 s5 sa, .slice s2 s6 sb, .int .i64 si, .slice s3 s7 sc, .slice s4 s8 sd, .int .i64 0] 36 (0, 0))) hb); clear hb)
      | (go_at_call 3; refine (travelRuns_any _).mono ?_; rintro e we ⟨rfl, hb⟩; have Bf := Lib.hid (Be.out.trans (hb.mono Be.out.size)); clear hb))
    go_ret
    exact ⟨rfl, B05.out.trans (Bf.out.mono B05.out.size)⟩
  · obtain ⟨a1, a2, a6, a7, a8, a9⟩ := hB
    clear HFQ
    generalize R.1 = re at *
    generalize R.2.i = ri at *
    generalize R.2.h = rh at *
    generalize Q.1 = qe at *
    generalize Q.2.i = qi at *
    generalize Q.2.h = qh at *
    generalize R3.1 = se at *
    generalize R3.2.i = si at *
    generalize R3.2.h = sh at *
    generalize R3.2.q = sq at *
    generalize R3.2.p = sp at *
    subst a1 a6 a7 a8 a9
    have hri : (si != si) = false := by simp
    have hrh : (sh != sh) = false := by simp
    have hr0 : (sh == 0) = false := by simpa using a2
    go_wp2_with (first
      | (go_at_call 7; refine HG3c.out.mono ?_; rintro e wc ⟨s1, s5, sa, s2, s6, sb, s3, s7, sc, s4, s8, sd, rfl, hsp, hsq, hb⟩; have HSP := Lib.hid hsp; have HSQ := Lib.hid hsq; have Bc := Lib.hid (B5b.out.trans (hb.mono B5b.out.size)); have X14c := Lib.hid (blk_call X14b.out hb); clear hsp hsq
         have Bd := Lib.hid (Bc.out.alloc Bc.out.size (.cells #[.slice s1 s5 sa, .slice s2 s6 sb, .int .i64 si, .slice s3 s7 sc, .slice s4 s8 sd, .int .i64 sh] 36 (0, 0))); have Dcd := Lib.hid ((Below.refl wc.heap.size wc).alloc (Nat.le_refl _) (.cells #[.slice s1 s5 sa, .slice s2 s6 sb, .int .i64 si, .slice s3 s7 sc, .slice s4 s8 sd, .int .i64 sh] 36 (0, 0))); obtain ⟨⟨z0, z1, z2, z3, z4, z5⟩, -⟩ := blk6 (blk_new wc (.cells #[.slice s1 s5 sa, .slice s2 s6 sb, .int .i64 si, .slice s3 s7 sc, .slice s4 s8 sd, .int .i64 sh] 36 (0, 0))); obtain ⟨⟨x0, x1, x2, x3, x4, x5⟩, -⟩ := blk6 (blk_alloc X14c.out (.cells #[.slice s1 s5 sa, .slice s2 s6 sb, .int .i64 si, .slice s3 s7 sc, .slice s4 s8 sd, .int .i64 sh] 36 (0, 0))); clear hb)
      | (go_at_call 18; refine (get45 _ _ _ _ ⟨#[97]⟩ _ (HSP.out.call Dcd.out) (HSQ.out.call Dcd.out) (by simp)).mono ?_; rintro e wd ⟨rfl, hb⟩; have Be := Lib.hid (Bd.out.trans (hb.mono Bd.out.size)); rw [no_get.1, no_get.2]; obtain ⟨⟨z0, z1, z2, z3, z4, z5⟩, -⟩ := blk6 (blk_call (blk_new wc (.cells #[.slice s1 s5 sa, .slice s2 s6 sb, .int .i64 si, .slice s3 s7 sc, .slice s4 s8 sd, .int .i64 sh] 36 (0, 0))) hb); clear hb)
      | (go_at_call 3; refine (travelRuns_any _).mono ?_; rintro e we ⟨rfl, hb⟩; have Bf := Lib.hid (Be.out.trans (hb.mono Be.out.size)); clear hb))
    go_ret
    exact ⟨rfl, B05.out.trans (Bf.out.mono B05.out.size)⟩
  · obtain ⟨a1, a6, a9⟩ := hC
    clear HFQ
    generalize R.1 = re at *
    generalize R.2.i = ri at *
    generalize R.2.h = rh at *
    generalize Q.1 = qe at *
    generalize Q.2.i = qi at *
    generalize Q.2.h = qh at *
    generalize R3.1 = se at *
    generalize R3.2.i = si at *
    generalize R3.2.h = sh at *
    generalize R3.2.q = sq at *
    generalize R3.2.p = sp at *
    subst a6 a9
    have hre : (se != se) = false := by simp
    have hr0 : (se == 0) = false := by simpa using a1
    go_wp2_with (first
      | (go_at_call 7; refine HG3c.out.mono ?_; rintro e wc ⟨s1, s5, sa, s2, s6, sb, s3, s7, sc, s4, s8, sd, rfl, hsp, hsq, hb⟩; have HSP := Lib.hid hsp; have HSQ := Lib.hid hsq; have Bc := Lib.hid (B5b.out.trans (hb.mono B5b.out.size)); have X14c := Lib.hid (blk_call X14b.out hb); clear hsp hsq
         have Bd := Lib.hid (Bc.out.alloc Bc.out.size (.cells #[.slice s1 s5 sa, .slice s2 s6 sb, .int .i64 si, .slice s3 s7 sc, .slice s4 s8 sd, .int .i64 sh] 36 (0, 0))); have Dcd := Lib.hid ((Below.refl wc.heap.size wc).alloc (Nat.le_refl _) (.cells #[.slice s1 s5 sa, .slice s2 s6 sb, .int .i64 si, .slice s3 s7 sc, .slice s4 s8 sd, .int .i64 sh] 36 (0, 0))); obtain ⟨⟨z0, z1, z2, z3, z4, z5⟩, -⟩ := blk6 (blk_new wc (.cells #[.slice s1 s5 sa, .slice s2 s6 sb, .int .i64 si, .slice s3 s7 sc, .slice s4 s8 sd, .int .i64 sh] 36 (0, 0))); obtain ⟨⟨x0, x1, x2, x3, x4, x5⟩, -⟩ := blk6 (blk_alloc X14c.out (.cells #[.slice s1 s5 sa, .slice s2 s6 sb, .int .i64 si, .slice s3 s7 sc, .slice s4 s8 sd, .int .i64 sh] 36 (0, 0))); clear hb)
      | (go_at_call 18; refine (get45 _ _ _ _ ⟨#[97]⟩ _ (HSP.out.call Dcd.out) (HSQ.out.call Dcd.out) (by simp)).mono ?_; rintro e wd ⟨rfl, hb⟩; have Be := Lib.hid (Bd.out.trans (hb.mono Bd.out.size)); rw [no_get.1, no_get.2]; obtain ⟨⟨z0, z1, z2, z3, z4, z5⟩, -⟩ := blk6 (blk_call (blk_new wc (.cells #[.slice s1 s5 sa, .slice s2 s6 sb, .int .i64 si, .slice s3 s7 sc, .slice s4 s8 sd, .int .i64 sh] 36 (0, 0))) hb); clear hb)
      | (go_at_call 3; refine (travelRuns_any _).mono ?_; rintro e we ⟨rfl, hb⟩; have Bf := Lib.hid (Be.out.trans (hb.mono Be.out.size)); clear hb))
    go_ret
    exact ⟨rfl, B05.out.trans (Bf.out.mono B05.out.size)⟩
end Go.Proofs.YthigandmemifoaaGreatDoor
