/-
  Chapter 13's runs: ShapeRuns returns true. Trees that a statement builds by itself.
-/
import Derived.Test.YtolklphenllhpaaPrt
import Derived.Test.YtolklphenllhpaaMea
namespace Go.Proofs.Ytolklphenllhpaa
open Go.RowKit Go.PlainAid
set_option maxRecDepth 100000

section
variable {p : Nat → Prop} {w : World} {g k x : Tx} {a : List Pr} {av : Value}
theorem at_nil (p : Nat → Prop) (w : World) : At p w (.slice none 0 0) [] :=
  ⟨⟨none, 0, rfl, Nat.le_refl _, fun _ => rfl, fun i hi => absurd hi (Nat.not_lt_zero i)⟩, fun _ _ _ e => by cases e⟩
theorem at_one {b : Nat} {s t : Tx} {ty : TypeId} {fr : Nat × Nat} (c : Nat) (hb : w.heap[b]? = some (.cells #[.string s, .string t] ty fr)) (hp : p b) (hc : 1 ≤ c) : At p w (.slice (some ⟨b, 0, none⟩) 1 c) [(s, t)] := by
  refine ⟨⟨some ⟨b, 0, none⟩, c, rfl, hc, (fun h => by cases h), fun i hi => ?_⟩, fun _ _ _ e _ => by cases e; exact hp⟩
  obtain rfl : i = 0 := by simp at hi; omega
  exact ⟨b, 0, rfl, by simp [World.cell?, hb], by simp [World.cell?, hb]⟩
theorem at_two {b : Nat} {s t s' t' : Tx} {ty : TypeId} {fr : Nat × Nat} (c : Nat) (hb : w.heap[b]? = some (.cells #[.string s, .string t, .string s', .string t'] ty fr)) (hp : p b) (hc : 2 ≤ c) : At p w (.slice (some ⟨b, 0, none⟩) 2 c) [(s, t), (s', t')] := by
  refine ⟨⟨some ⟨b, 0, none⟩, c, rfl, hc, (fun h => by cases h), fun i hi => ?_⟩, fun _ _ _ e _ => by cases e; exact hp⟩
  have h2 : i = 0 ∨ i = 1 := by simp at hi; omega
  rcases h2 with rfl | rfl
  · exact ⟨b, 0, rfl, by simp [World.cell?, hb], by simp [World.cell?, hb]⟩
  · exact ⟨b, 0, rfl, by simp [World.cell?, hb], by simp [World.cell?, hb]⟩
theorem trw_leaf (ha : At p w av a) (hl : a.length ≤ 1000000) : TrW p w (.agg #[.string g, .string k, .string x, av, .slice none 0 0]) (.mk g k x a []) :=
  TrW.mk (kids := []) (c := 0) (A := none) (fun _ => undef) ⟨hl, by simp⟩ ha.1 ha.2 (Nat.zero_le _) (fun i hi => absurd hi (Nat.not_lt_zero i)) (fun i hi => absurd hi (Nat.not_lt_zero i))
theorem trw_row (ha : At p w av a) (ts : List Tr) (hl : a.length ≤ 1000000 ∧ ts.length ≤ 1000000) {b c : Nat} (hc : ts.length ≤ c) (hpb : p b) (cv : Nat → Value)
    (h : ∀ i, i < ts.length → ∃ x0 x1 x2 x3 x4, cv i = .agg #[x0, x1, x2, x3, x4] ∧ w.cell? ⟨b, 0 + i * 5, none⟩ = some x0 ∧ w.cell? ⟨b, 0 + i * 5 + 1, none⟩ = some x1 ∧ w.cell? ⟨b, 0 + i * 5 + 2, none⟩ = some x2 ∧ w.cell? ⟨b, 0 + i * 5 + 3, none⟩ = some x3 ∧ w.cell? ⟨b, 0 + i * 5 + 4, none⟩ = some x4)
    (ht : ∀ i, i < ts.length → TrW p w (cv i) (ts.getD i tr0)) : TrW p w (.agg #[.string g, .string k, .string x, av, .slice (some ⟨b, 0, none⟩) ts.length c]) (.mk g k x a ts) :=
  .mk cv hl ha.1 ha.2 hc (fun i hi => by
    obtain ⟨x0, x1, x2, x3, x4, e, h0, h1, h2, h3, h4⟩ := h i hi
    exact ⟨b, 0, x0, x1, x2, x3, x4, rfl, hpb, e, h0, h1, h2, h3, h4⟩) ht
theorem trw_one {b c : Nat} {x0 x1 x2 x3 x4 : Value} {ty : TypeId} {fr : Nat × Nat} {t : Tr} (ha : At p w av a) (hl : a.length ≤ 1000000) (hc : 1 ≤ c) (hpb : p b) (hb : w.heap[b]? = some (.cells #[x0, x1, x2, x3, x4] ty fr)) (ht : TrW p w (.agg #[x0, x1, x2, x3, x4]) t) :
    TrW p w (.agg #[.string g, .string k, .string x, av, .slice (some ⟨b, 0, none⟩) 1 c]) (.mk g k x a [t]) := by
  refine trw_row ha [t] ⟨hl, by simp⟩ hc hpb (fun _ => .agg #[x0, x1, x2, x3, x4]) (fun i hi => ?_) (fun i hi => ?_)
  · obtain rfl : i = 0 := by simp at hi; omega
    refine ⟨x0, x1, x2, x3, x4, rfl, ?_, ?_, ?_, ?_, ?_⟩ <;> simp [World.cell?, hb]
  · obtain rfl : i = 0 := by simp at hi; omega
    exact ht
theorem trw_two {b c : Nat} {x0 x1 x2 x3 x4 y0 y1 y2 y3 y4 : Value} {ty : TypeId} {fr : Nat × Nat} {t u : Tr} (ha : At p w av a) (hl : a.length ≤ 1000000) (hc : 2 ≤ c) (hpb : p b) (hb : w.heap[b]? = some (.cells #[x0, x1, x2, x3, x4, y0, y1, y2, y3, y4] ty fr)) (ht : TrW p w (.agg #[x0, x1, x2, x3, x4]) t) (hu : TrW p w (.agg #[y0, y1, y2, y3, y4]) u) :
    TrW p w (.agg #[.string g, .string k, .string x, av, .slice (some ⟨b, 0, none⟩) 2 c]) (.mk g k x a [t, u]) := by
  refine trw_row ha [t, u] ⟨hl, by simp⟩ hc hpb (fun i => if i = 0 then .agg #[x0, x1, x2, x3, x4] else .agg #[y0, y1, y2, y3, y4]) (fun i hi => ?_) (fun i hi => ?_)
  · have h2 : i = 0 ∨ i = 1 := by simp at hi; omega
    rcases h2 with rfl | rfl
    · refine ⟨x0, x1, x2, x3, x4, rfl, ?_, ?_, ?_, ?_, ?_⟩ <;> simp [World.cell?, hb]
    · refine ⟨y0, y1, y2, y3, y4, rfl, ?_, ?_, ?_, ?_, ?_⟩ <;> simp [World.cell?, hb]
  · have h2 : i = 0 ∨ i = 1 := by simp at hi; omega
    rcases h2 with rfl | rfl
    · exact ht
    · exact hu
theorem trw_same {b c n : Nat} {x0 x1 x2 x3 x4 : Value} {cs : Array Value} {ty : TypeId} {fr : Nat × Nat} {t : Tr} (ha : At p w av a) (hl : a.length ≤ 1000000) (hn : n ≤ 1000000) (hc : n ≤ c) (hpb : p b) (hb : w.heap[b]? = some (.cells cs ty fr))
    (hcs : ∀ i, i < n → cs[i * 5]? = some x0 ∧ cs[i * 5 + 1]? = some x1 ∧ cs[i * 5 + 2]? = some x2 ∧ cs[i * 5 + 3]? = some x3 ∧ cs[i * 5 + 4]? = some x4) (ht : TrW p w (.agg #[x0, x1, x2, x3, x4]) t) :
    TrW p w (.agg #[.string g, .string k, .string x, av, .slice (some ⟨b, 0, none⟩) n c]) (.mk g k x a (List.replicate n t)) := by
  have := trw_row (g := g) (k := k) (x := x) (c := c) ha (List.replicate n t) ⟨hl, by simpa using hn⟩ (by simpa using hc) hpb (fun _ => .agg #[x0, x1, x2, x3, x4]) (fun i hi => ?_) (fun i hi => ?_)
  · simpa using this
  · have hi' : i < n := by simpa using hi
    obtain ⟨h0, h1, h2, h3, h4⟩ := hcs i hi'
    refine ⟨x0, x1, x2, x3, x4, rfl, ?_, ?_, ?_, ?_, ?_⟩ <;> simp [World.cell?, *]
  · have hi' : i < n := by simpa using hi
    rw [show (List.replicate n t).getD i tr0 = t by simp [List.getD, hi']]
    exact ht
end

def tRun : Tr := .mk ⟨#[97]⟩ ⟨#[107]⟩ ⟨#[]⟩ [(⟨#[120]⟩, ⟨#[49]⟩)] [.mk ⟨#[]⟩ ⟨#[]⟩ ⟨#[116]⟩ [] []]
theorem run_all : tRun.all NdS ∧ tRun.all (fun x => rn x = true) := by
  constructor
  · unfold tRun
    simp only [Tr.all, allL, NdS, AtS, Tr.tag, Tr.key, Tr.text, Tr.attrs]
    refine ⟨⟨Or.inl (by decide), by decide, by decide, by decide⟩, ⟨⟨Or.inl (by decide), by decide, by decide, by decide⟩, trivial⟩, trivial⟩
  · unfold tRun
    simp only [Tr.all, allL]
    refine ⟨by decide, ⟨by decide, trivial⟩, trivial⟩
theorem run_rt : rtB tRun = true := by
  have h : rg 12 tRun 60 = (true, 60 - tRun.cnt) := rg_yes 12 tRun 60 run_all.2 (by unfold tRun; simp [Tr.dep, depL]) (by unfold tRun; simp [Tr.cnt, cntL])
  unfold rtB
  rw [h]
theorem run_prt : prt tRun = [60, 97, 35, 34, 107, 34, 32, 34, 120, 34, 61, 34, 49, 34, 62, 34, 116, 34, 60, 47, 62] := by
  unfold tRun
  simp only [prt, prtL]
  decide
set_option maxHeartbeats 12800000 in
theorem runs3 (w : World) : Calls Try.prog 3 #[] w fun e w' => e = .returned (.bool true) ∧ Below w.heap.size w w' := by
  go_enter Try.func3, Try.ntmps3
  go_upto_region 2 with fail
  have hb0 := (((Below.refl _ w).alloc (Nat.le_refl _) (.cells #[.string ⟨#[120]⟩, .string ⟨#[49]⟩] 23 (0, 0))).alloc (by simp) (.cells #[.string ⟨#[]⟩, .string ⟨#[]⟩, .string ⟨#[116]⟩, .slice none 0 0, .slice none 0 0] 27 (0, 0))).alloc (by simp; omega) (.cells #[.string ⟨#[97]⟩, .string ⟨#[107]⟩, .string ⟨#[]⟩, .slice (some ⟨w.heap.size, 0, none⟩) 1 1, .slice (some ⟨w.heap.size + 1, 0, none⟩) 1 1] 27 (0, 0))
  have B1 := Lib.hid hb0
  have A1 := blk_alloc (blk_alloc (blk_new w (.cells #[.string ⟨#[120]⟩, .string ⟨#[49]⟩] 23 (0, 0))) (.cells #[.string ⟨#[]⟩, .string ⟨#[]⟩, .string ⟨#[116]⟩, .slice none 0 0, .slice none 0 0] 27 (0, 0))) (.cells #[.string ⟨#[97]⟩, .string ⟨#[107]⟩, .string ⟨#[]⟩, .slice (some ⟨w.heap.size, 0, none⟩) 1 1, .slice (some ⟨w.heap.size + 1, 0, none⟩) 1 1] 27 (0, 0))
  have A2 := blk_alloc (blk_new1 w (.cells #[.string ⟨#[120]⟩, .string ⟨#[49]⟩] 23 (0, 0)) (.cells #[.string ⟨#[]⟩, .string ⟨#[]⟩, .string ⟨#[116]⟩, .slice none 0 0, .slice none 0 0] 27 (0, 0))) (.cells #[.string ⟨#[97]⟩, .string ⟨#[107]⟩, .string ⟨#[]⟩, .slice (some ⟨w.heap.size, 0, none⟩) 1 1, .slice (some ⟨w.heap.size + 1, 0, none⟩) 1 1] 27 (0, 0))
  have A3 := blk_new1 (w.alloc (.cells #[.string ⟨#[120]⟩, .string ⟨#[49]⟩] 23 (0, 0))) (.cells #[.string ⟨#[]⟩, .string ⟨#[]⟩, .string ⟨#[116]⟩, .slice none 0 0, .slice none 0 0] 27 (0, 0)) (.cells #[.string ⟨#[97]⟩, .string ⟨#[107]⟩, .string ⟨#[]⟩, .slice (some ⟨w.heap.size, 0, none⟩) 1 1, .slice (some ⟨w.heap.size + 1, 0, none⟩) 1 1] 27 (0, 0))
  rw [show (w.alloc (.cells #[.string ⟨#[120]⟩, .string ⟨#[49]⟩] 23 (0, 0))).heap.size = w.heap.size + 1 by simp] at A3
  clear hb0
  generalize ((w.alloc _).alloc _).alloc _ = w1 at *
  have T1 : Hid (TrW (fun _ => True) w1 (.agg #[.string ⟨#[97]⟩, .string ⟨#[107]⟩, .string ⟨#[]⟩, .slice (some ⟨w.heap.size, 0, none⟩) 1 1, .slice (some ⟨w.heap.size + 1, 0, none⟩) 1 1]) tRun) :=
    trw_one (at_one 1 A1 trivial (Nat.le_refl _)) (by simp) (Nat.le_refl _) trivial A2 (trw_leaf (at_nil _ _) (by simp))
  have X1 := Lib.hid A3
  clear A1 A2 A3
  have x0 := blk_cell X1.out 0
  have x1 := blk_cell X1.out 1
  have x2 := blk_cell X1.out 2
  have x3 := blk_cell X1.out 3
  have x4 := blk_cell X1.out 4
  simp at x0 x1 x2 x3 x4
  go_wp2_with fail
  refine (right7 _ _ w1 T1.out run_all.1).mono ?_
  rintro e w2 ⟨rfl, hb2⟩
  have X2 := Lib.hid (blk_call X1.out hb2)
  have T2 := Lib.hid (T1.out.call hb2)
  have B2 := Lib.hid (B1.out.trans (hb2.mono B1.out.size))
  clear hb2 X1 T1 B1 x0 x1 x2 x3 x4
  have x0 := blk_cell X2.out 0
  have x1 := blk_cell X2.out 1
  have x2 := blk_cell X2.out 2
  have x3 := blk_cell X2.out 3
  have x4 := blk_cell X2.out 4
  simp at x0 x1 x2 x3 x4
  rw [run_rt]
  go_wp2_with fail
  refine (print8 _ _ w2 T2.out run_all.1 (by rw [run_prt]; decide)).mono ?_
  rintro e w3 ⟨rfl, hb3⟩
  have X3 := Lib.hid (blk_call X2.out hb3)
  have T3 := Lib.hid (T2.out.call hb3)
  have B3 := Lib.hid (B2.out.trans (hb3.mono B2.out.size))
  clear hb3 X2 T2 B2 x0 x1 x2 x3 x4
  have x0 := blk_cell X3.out 0
  have x1 := blk_cell X3.out 1
  have x2 := blk_cell X3.out 2
  have x3 := blk_cell X3.out 3
  have x4 := blk_cell X3.out 4
  simp at x0 x1 x2 x3 x4
  rw [show pnT tRun = ⟨#[60, 97, 35, 34, 107, 34, 32, 34, 120, 34, 61, 34, 49, 34, 62, 34, 116, 34, 60, 47, 62]⟩ by unfold pnT; rw [if_pos run_rt, run_prt]; rfl]
  go_wp2_with fail
  refine (count9 10 (by omega) _ _ w3 (by unfold tRun; simp [Tr.cnt, cntL]) T3.out).mono ?_
  rintro e w4 ⟨rfl, hb4⟩
  have X4 := Lib.hid (blk_call X3.out hb4)
  have T4 := Lib.hid (T3.out.call hb4)
  have B4 := Lib.hid (B3.out.trans (hb4.mono B3.out.size))
  clear hb4 X3 T3 B3 x0 x1 x2 x3 x4
  have x0 := blk_cell X4.out 0
  have x1 := blk_cell X4.out 1
  have x2 := blk_cell X4.out 2
  have x3 := blk_cell X4.out 3
  have x4 := blk_cell X4.out 4
  simp at x0 x1 x2 x3 x4
  rw [show tRun.cnt = 2 by unfold tRun; simp [Tr.cnt, cntL]]
  go_wp2_with fail
  refine (deep10 10 (by omega) _ _ w4 (by unfold tRun; simp [Tr.cnt, cntL]) T4.out).mono ?_
  rintro e w5 ⟨rfl, hb5⟩
  have X5 := Lib.hid (blk_call X4.out hb5)
  have T5 := Lib.hid (T4.out.call hb5)
  have B5 := Lib.hid (B4.out.trans (hb5.mono B4.out.size))
  clear hb5 X4 T4 B4 x0 x1 x2 x3 x4
  have x0 := blk_cell X5.out 0
  have x1 := blk_cell X5.out 1
  have x2 := blk_cell X5.out 2
  have x3 := blk_cell X5.out 3
  have x4 := blk_cell X5.out 4
  simp at x0 x1 x2 x3 x4
  rw [show tRun.dep = 2 by unfold tRun; simp [Tr.dep, depL]]
  go_wp2_with fail
  refine (slots11 10 (by omega) _ _ w5 (by unfold tRun; simp [Tr.cnt, cntL]) T5.out).mono ?_
  rintro e w6 ⟨rfl, hb6⟩
  have X6 := Lib.hid (blk_call X5.out hb6)
  have T6 := Lib.hid (T5.out.call hb6)
  have B6 := Lib.hid (B5.out.trans (hb6.mono B5.out.size))
  clear hb6 X5 T5 B5 x0 x1 x2 x3 x4
  have x0 := blk_cell X6.out 0
  have x1 := blk_cell X6.out 1
  have x2 := blk_cell X6.out 2
  have x3 := blk_cell X6.out 3
  have x4 := blk_cell X6.out 4
  simp at x0 x1 x2 x3 x4
  rw [show tRun.slt = 0 by unfold tRun; simp [Tr.slt, sltL]; decide]
  go_wp2
  go_ret
  exact ⟨rfl, B6.out⟩
end Go.Proofs.Ytolklphenllhpaa
