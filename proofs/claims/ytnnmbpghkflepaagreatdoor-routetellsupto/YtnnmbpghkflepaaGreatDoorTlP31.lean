/-
  Put together: Runs, SameG.
-/
import Derived.Test.YtnnmbpghkflepaaGreatDoorTlP27
import Derived.Test.YtnnmbpghkflepaaGreatDoorTlP10
namespace Go.Proofs.YtnnmbpghkflepaaGreatDoor
open Go.RowKit Go.PlainAid
set_option maxRecDepth 100000

def shopT : ByteArray := ⟨#[115, 104, 111, 112]⟩
def itemT : ByteArray := ⟨#[105, 116, 101, 109]⟩
def shopL (u1 u2 : Value) : List Rc := [⟨⟨#[115, 104, 111, 112]⟩, -1, u1, [(0, ⟨#[115, 104, 111, 112]⟩)], 0, false, 0, 0, ⟨#[]⟩⟩, ⟨⟨#[105, 116, 101, 109]⟩, 0, u2, [(1, ⟨#[105, 100]⟩)], 0, false, 0, 0, ⟨#[]⟩⟩]
/-- what the functions ask of a record: not where its segments lie -/
def dry (r : Rc) : Rc := { r with u := .slice none 0 0 }
theorem dry_getD (l : List Rc) (i : Nat) : ((l.map dry).getD i default) = dry (l.getD i default) := by
  by_cases h : i < l.length
  · simp [List.getD, h]
  · simp [List.getD, List.getElem?_eq_none (show l.length ≤ i by omega)]; rfl
theorem dry_up (l : List Rc) : ∀ f e i, upL (l.map dry) f e i = upL l f e i := by
  intro f
  induction f with
  | zero => intro e i; rfl
  | succ f ih =>
    intro e i
    rw [upL, upL, dry_getD, ih]
    rfl
theorem dry_ch (l : List Rc) (i : Int) : chL (l.map dry) i = chL l i := by rw [chL, chL, List.length_map, dry_up]
theorem dry_fu (l : List Rc) (i : Int) : fuL (l.map dry) i = fuL l i := by
  rw [fuL, fuL, dry_ch, sgsOf, sgsOf]
  congr 1
  funext k
  rw [dry_getD]
  rfl
theorem dry_nm (l : List Rc) (s : ByteArray) : nmI (l.map dry) s = nmI l s := by
  have e : (l.map dry).findIdx (fun r => decide (r.n = s)) = l.findIdx (fun r => decide (r.n = s)) := by
    rw [List.findIdx_map]
    rfl
  rw [nmI, nmI, e, List.length_map]
theorem dry_ok (l : List Rc) (i : Nat) : okR (l.map dry) i = okR l i := by
  rw [okR, okR, dry_getD, dry_fu, ← List.map_take, dry_nm]
  rfl
theorem dry_rt (l : List Rc) : rtB (l.map dry) = rtB l := by
  rw [rtB, rtB, List.length_map]
  congr 2
  funext i
  exact dry_ok l i
theorem dry_fus (l : List Rc) (k : Nat) : fusL (l.map dry) k = fusL l k := by
  rw [fusL, fusL]
  congr 1
  funext i
  exact dry_fu l i
section
variable (u1 u2 : Value)
def shopD : List Rc := shopL (.slice none 0 0) (.slice none 0 0)
theorem shop_dry : (shopL u1 u2).map dry = shopD := rfl
theorem shop_rt : rtB (shopL u1 u2) = true := by rw [← dry_rt, shop_dry]; decide +kernel
theorem shop_fit : Fit (shopL u1 u2) := ⟨by simp [shopL], fun r hr => by simp [shopL] at hr; rcases hr with rfl | rfl <;> simp⟩
theorem shop_ch : chL (shopL u1 u2) 1 = [0, 1] := by rw [← dry_ch, shop_dry]; decide +kernel
theorem shop_nm : nmI (shopL u1 u2) ⟨#[120]⟩ = -1 := by rw [← dry_nm, shop_dry]; decide +kernel
theorem shop_nmi : nmI (shopL u1 u2) ⟨#[105, 116, 101, 109]⟩ = 1 := by rw [← dry_nm, shop_dry]; decide +kernel
theorem shop_fus : fusL (shopL u1 u2) (shopL u1 u2).length = [[(0, ⟨#[115, 104, 111, 112]⟩)], [(0, ⟨#[115, 104, 111, 112]⟩), (1, ⟨#[105, 100]⟩)]] := by
  have e : (shopL u1 u2).length = 2 := rfl
  rw [e, ← dry_fus, shop_dry]; decide +kernel
def shopF : List (List Sg) := [[(0, ⟨#[115, 104, 111, 112]⟩)], [(0, ⟨#[115, 104, 111, 112]⟩), (1, ⟨#[105, 100]⟩)]]
theorem shop_of {path : List ByteArray} {al : List Nat} (h1 : al.Pairwise (fun i k => cW shopF i k < 0)) (h2 : ∀ i, i < 2 → (i ∈ al ↔ mtB (shopF.getD i default) path = true)) (h3 : ∀ i ∈ al, i < 2) : AllN shopF path al := by
  refine ⟨h1, fun i => ⟨fun h => ⟨h3 i h, (h2 i (h3 i h)).1 h⟩, fun h => (h2 i h.1).2 h.2⟩⟩
theorem shop_al : AllN (fusL (shopL u1 u2) (shopL u1 u2).length) [⟨#[115, 104, 111, 112]⟩, ⟨#[55]⟩] [1] := by
  rw [shop_fus]
  exact shop_of (by decide +kernel) (by decide +kernel) (by decide +kernel)
theorem shop_aL : aL (fusL (shopL u1 u2) (shopL u1 u2).length) [⟨#[115, 104, 111, 112]⟩, ⟨#[55]⟩] [1] = [(⟨#[105, 100]⟩, ⟨#[55]⟩)] := by
  rw [shop_fus]; decide +kernel
theorem shop_fu : fuL (shopL u1 u2) 1 = [(0, ⟨#[115, 104, 111, 112]⟩), (1, ⟨#[105, 100]⟩)] := by rw [← dry_fu, shop_dry]; decide +kernel
theorem shop_rvB : rvB (shopL u1 u2) ⟨#[105, 116, 101, 109]⟩ [(⟨#[105, 100]⟩, ⟨#[55]⟩)] = true := by rw [rvB, shop_nmi, shop_rt, shop_fu]; decide +kernel
theorem shop_rvL : rvL (shopL u1 u2) ⟨#[105, 116, 101, 109]⟩ [(⟨#[105, 100]⟩, ⟨#[55]⟩)] = [⟨#[115, 104, 111, 112]⟩, ⟨#[55]⟩] := by rw [rvL, shop_nmi, shop_rt, shop_fu]; decide +kernel
end

theorem gs_one {w : World} {b : Nat} {k : Int} {t : ByteArray} (h : w.heap[b]? = some (.cells #[.int .i64 k, .string t] 49 (0, 0))) : Gs w (.slice (some ⟨b, 0, none⟩) 1 1) [(k, t)] := gs_new (l := [(k, t)]) h rfl
theorem rs_new {w : World} {b : Nat} {l : List Rc} {n : Nat} (h : w.heap[b]? = some (.cells (l.flatMap rcC).toArray 59 (0, 0))) (hn : l.length = n) (hg : ∀ r ∈ l, Gs w r.u r.l) : Rs w (.slice (some ⟨b, 0, none⟩) n n) l := by
  subst hn
  refine ⟨_, _, rfl, Nat.le_refl _, (fun h => by cases h), fun i hi => ⟨b, 0, rfl, RcAt.of fun j hj => ?_⟩, hg⟩
  rw [blk_cell h]
  have := rcC_at l i j hi hj
  simpa using this
set_option maxHeartbeats 6400000 in
theorem shop41 (w : World) : Calls Tryz.prog 41 #[] w fun e w' => ∃ u u1 u2, e = .returned u ∧ Rs w' u (shopL u1 u2) ∧ Below w.heap.size w w' := by
  go_enter Tryz.func41, Tryz.ntmps41
  go_wp2
  go_ret
  refine ⟨_, _, _, rfl, rs_new (l := shopL (.slice (some ⟨w.heap.size, 0, none⟩) 1 1) (.slice (some ⟨w.heap.size + 1, 0, none⟩) 1 1)) ?_ rfl ?_, ?_⟩
  · have := blk_new ((w.alloc (.cells #[.int .i64 0, .string ⟨#[115, 104, 111, 112]⟩] 49)).alloc (.cells #[.int .i64 1, .string ⟨#[105, 100]⟩] 49)) (.cells ((shopL (.slice (some ⟨w.heap.size, 0, none⟩) 1 1) (.slice (some ⟨w.heap.size + 1, 0, none⟩) 1 1)).flatMap rcC).toArray 59)
    have hs : ((w.alloc (.cells #[.int .i64 0, .string ⟨#[115, 104, 111, 112]⟩] 49)).alloc (.cells #[.int .i64 1, .string ⟨#[105, 100]⟩] 49)).heap.size = w.heap.size + 1 + 1 := by simp
    rw [hs] at this
    exact this
  · intro r hr
    simp only [shopL, List.mem_cons, List.not_mem_nil, or_false] at hr
    rcases hr with rfl | rfl
    · exact gs_one (blk_alloc (blk_alloc (blk_new w _) _) _)
    · exact gs_one (blk_alloc (blk_new1 w _ _) _)
  · exact (((Below.refl _ w).alloc (Nat.le_refl _) _).alloc (by simp) _).alloc (by simp; omega) _

section
variable {W : World} {u u1 u2 : Value}
theorem run_res (hS : Rs W u (shopL u1 u2)) {b : Nat} (hb : W.heap[b]? = some (.cells #[.string ⟨#[115, 104, 111, 112]⟩, .string ⟨#[55]⟩] 9 (0, 0))) :
    Calls Tryz.prog 9 #[u, .slice (some ⟨b, 0, none⟩) 2 2] W fun e w' => ∃ u, e = .returned (.tuple #[.int .i64 1, u, .bool true]) ∧ Ps w' u [(⟨#[105, 100]⟩, ⟨#[55]⟩)] ∧ Below W.heap.size W w' := by
  refine (resolve9_yes u (shopL u1 u2) _ [⟨#[115, 104, 111, 112]⟩, ⟨#[55]⟩] W hS (shop_fit u1 u2) (shop_rt u1 u2) (by simp [shopL]) (ss_new hb rfl) (fun s hs => by simp at hs; rcases hs with rfl | rfl <;> decide) (by simp) (shop_al u1 u2)).mono ?_
  rintro e w' ⟨v, he, hp, hb⟩
  rw [shop_aL] at hp
  exact ⟨v, he, hp, hb⟩
theorem run_rev (hS : Rs W u (shopL u1 u2)) {b : Nat} (hb : W.heap[b]? = some (.cells #[.string ⟨#[105, 100]⟩, .string ⟨#[55]⟩] 40 (0, 0))) :
    Calls Tryz.prog 16 #[u, .string ⟨#[105, 116, 101, 109]⟩, .slice (some ⟨b, 0, none⟩) 1 1] W fun e w' => ∃ u, e = .returned (.tuple #[u, .bool true]) ∧ Ss w' u [⟨#[115, 104, 111, 112]⟩, ⟨#[55]⟩] ∧ Below W.heap.size W w' := by
  refine (reverse16 u (shopL u1 u2) _ _ [(⟨#[105, 100]⟩, ⟨#[55]⟩)] W hS (shop_fit u1 u2) (ps_new (l := [(⟨#[105, 100]⟩, ⟨#[55]⟩)]) hb rfl) (by simp) (fun p hp => by simp at hp; subst hp; decide)).mono ?_
  rintro e w' ⟨v, he, hp, hb⟩
  rw [shop_rvL] at hp
  rw [shop_rvB] at he
  exact ⟨v, he, hp, hb⟩
theorem run_right (hS : Rs W u (shopL u1 u2)) : Calls Tryz.prog 11 #[u] W fun e w' => e = .returned (.bool true) ∧ Below W.heap.size W w' := by
  have := right11 u (shopL u1 u2) W hS (shop_fit u1 u2)
  rwa [shop_rt] at this
theorem run_chain (hS : Rs W u (shopL u1 u2)) : Calls Tryz.prog 24 #[u, .int .i64 1] W fun e w' => ∃ u, e = .returned u ∧ Ni w' u [0, 1] ∧ Below W.heap.size W w' := by
  have := chain24 u (shopL u1 u2) 1 W hS (by simp [shopL])
  rwa [shop_ch] at this
theorem run_named (hS : Rs W u (shopL u1 u2)) : Calls Tryz.prog 14 #[u, .string ⟨#[120]⟩] W fun e w' => e = .returned (.int .i64 (-1)) ∧ Below W.heap.size W w' := by
  have := named14 u (shopL u1 u2) ⟨#[120]⟩ W hS (by simp [shopL])
  rwa [shop_nm] at this
theorem ni_two {b : Nat} (hb : W.heap[b]? = some (.cells #[.int .i64 0, .int .i64 1] 3 (0, 0))) : Ni W (.slice (some ⟨b, 0, none⟩) 2 2) [0, 1] := by
  refine ⟨_, _, rfl, Nat.le_refl _, (fun h => by cases h), fun i hi => ⟨b, 0, rfl, ?_⟩⟩
  rw [blk_cell hb]
  have hi : i < 2 := hi
  rcases (show i = 0 ∨ i = 1 by omega) with rfl | rfl <;> rfl
end

set_option maxHeartbeats 12800000 in
theorem routeRuns_any (w : World) : Calls Tryz.prog 19 #[] w fun e w' => e = .returned (.bool true) ∧ Below w.heap.size w w' := by
  go_enter Tryz.func19, Tryz.ntmps19
  go_wp2_with (first
    | (go_at_call 41; refine (shop41 _).mono ?_; rintro e w1 ⟨u, u1, u2, rfl, h1, hb1⟩; have S1 := Lib.hid h1; have B1 := Lib.hid hb1; obtain ⟨A1, n1, c1, e1⟩ := h1.shape; subst e1; clear h1 hb1
       have S1a := Lib.hid (S1.out.call ((Below.refl _ w1).alloc (Nat.le_refl _) (.cells #[.string ⟨#[115, 104, 111, 112]⟩, .string ⟨#[55]⟩] 9)))
       have B1a := Lib.hid (B1.out.alloc B1.out.size (.cells #[.string ⟨#[115, 104, 111, 112]⟩, .string ⟨#[55]⟩] 9)))
    | (go_at_call 9; refine (run_res S1a.out (blk_new w1 _)).mono ?_; rintro e w2 ⟨v2, rfl, h2, hb2⟩; have P2 := Lib.hid h2; have B2 := Lib.hid (B1a.out.trans (hb2.mono B1a.out.size)); have S2 := Lib.hid (S1a.out.call hb2); obtain ⟨A2, n2, c2, e2⟩ := h2.shape; subst e2; clear h2 hb2
       have S2a := Lib.hid (S2.out.call ((Below.refl _ w2).alloc (Nat.le_refl _) (.cells #[.string ⟨#[105, 100]⟩, .string ⟨#[55]⟩] 40)))
       have P2a := Lib.hid (P2.out.call ((Below.refl _ w2).alloc (Nat.le_refl _) (.cells #[.string ⟨#[105, 100]⟩, .string ⟨#[55]⟩] 40)))
       have B2a := Lib.hid (B2.out.alloc B2.out.size (.cells #[.string ⟨#[105, 100]⟩, .string ⟨#[55]⟩] 40)))
    | (go_at_call 16; refine (run_rev S2a.out (blk_new w2 _)).mono ?_; rintro e w3 ⟨v3, rfl, h3, hb3⟩; have Q3 := Lib.hid h3; have B3 := Lib.hid (B2a.out.trans (hb3.mono B2a.out.size)); have S3 := Lib.hid (S2a.out.call hb3); have P3 := Lib.hid (P2a.out.call hb3); obtain ⟨A3, n3, c3, e3⟩ := h3.shape; subst e3; clear h3 hb3)
    | (go_at_call 11; refine (run_right S3.out).mono ?_; rintro e w4 ⟨rfl, hb4⟩; have B4 := Lib.hid (B3.out.trans (hb4.mono B3.out.size)); have S4 := Lib.hid (S3.out.call hb4); have P4 := Lib.hid (P3.out.call hb4); have Q4 := Lib.hid (Q3.out.call hb4); clear hb4
       have S4a := Lib.hid (S4.out.call ((Below.refl _ w4).alloc (Nat.le_refl _) (.cells #[.string ⟨#[105, 100]⟩, .string ⟨#[55]⟩] 40)))
       have P4a := Lib.hid (P4.out.call ((Below.refl _ w4).alloc (Nat.le_refl _) (.cells #[.string ⟨#[105, 100]⟩, .string ⟨#[55]⟩] 40)))
       have Q4a := Lib.hid (Q4.out.call ((Below.refl _ w4).alloc (Nat.le_refl _) (.cells #[.string ⟨#[105, 100]⟩, .string ⟨#[55]⟩] 40)))
       have B4a := Lib.hid (B4.out.alloc B4.out.size (.cells #[.string ⟨#[105, 100]⟩, .string ⟨#[55]⟩] 40)))
    | (go_at_call 13; refine (sameP _ _ _ [(⟨#[105, 100]⟩, ⟨#[55]⟩)] _ P4a.out (ps_new (l := [(⟨#[105, 100]⟩, ⟨#[55]⟩)]) (blk_new w4 _) rfl) (by simp)).mono ?_; rintro e w5 ⟨rfl, hb5⟩; rw [decide_eq_true rfl]; have B5 := Lib.hid (B4a.out.trans (hb5.mono B4a.out.size)); have S5 := Lib.hid (S4a.out.call hb5); have Q5 := Lib.hid (Q4a.out.call hb5); clear hb5)
    | (go_at_call 24; refine (run_chain S5.out).mono ?_; rintro e w6 ⟨v6, rfl, h6, hb6⟩; have N6 := Lib.hid h6; have B6 := Lib.hid (B5.out.trans (hb6.mono B5.out.size)); have S6 := Lib.hid (S5.out.call hb6); have Q6 := Lib.hid (Q5.out.call hb6); obtain ⟨A6, n6, c6, e6⟩ := h6.shape; subst e6; clear h6 hb6
       have S6a := Lib.hid (S6.out.call ((Below.refl _ w6).alloc (Nat.le_refl _) (.cells #[.int .i64 0, .int .i64 1] 3)))
       have N6a := Lib.hid (N6.out.call ((Below.refl _ w6).alloc (Nat.le_refl _) (.cells #[.int .i64 0, .int .i64 1] 3)))
       have Q6a := Lib.hid (Q6.out.call ((Below.refl _ w6).alloc (Nat.le_refl _) (.cells #[.int .i64 0, .int .i64 1] 3)))
       have B6a := Lib.hid (B6.out.alloc B6.out.size (.cells #[.int .i64 0, .int .i64 1] 3)))
    | (go_at_call 23; refine (sameI16 _ _ _ [0, 1] _ N6a.out (ni_two (blk_new w6 _)) (by simp) (by simp)).mono ?_; rintro e w7 ⟨rfl, hw7⟩; rw [decide_eq_true rfl]; have hb7 := drB hw7 (w6.alloc (.cells #[.int .i64 0, .int .i64 1] 3)).heap.size; have B7 := Lib.hid (B6a.out.trans (hb7.mono B6a.out.size)); have S7 := Lib.hid (S6a.out.call hb7); have Q7 := Lib.hid (Q6a.out.call hb7); clear hb7 hw7
       have S7a := Lib.hid (S7.out.call ((Below.refl _ w7).alloc (Nat.le_refl _) (.cells #[.string ⟨#[115, 104, 111, 112]⟩, .string ⟨#[55]⟩] 9)))
       have Q7a := Lib.hid (Q7.out.call ((Below.refl _ w7).alloc (Nat.le_refl _) (.cells #[.string ⟨#[115, 104, 111, 112]⟩, .string ⟨#[55]⟩] 9)))
       have B7a := Lib.hid (B7.out.alloc B7.out.size (.cells #[.string ⟨#[115, 104, 111, 112]⟩, .string ⟨#[55]⟩] 9)))
    | (go_at_call 18; refine (sameS _ _ _ [⟨#[115, 104, 111, 112]⟩, ⟨#[55]⟩] _ Q7a.out (ss_new (blk_new w7 _) rfl) (by simp)).mono ?_; rintro e w8 ⟨rfl, hb8⟩; rw [decide_eq_true rfl]; have B8 := Lib.hid (B7a.out.trans (hb8.mono B7a.out.size)); have S8 := Lib.hid (S7a.out.call hb8); clear hb8)
    | (go_at_call 14; refine (run_named S8.out).mono ?_; rintro e w9 ⟨rfl, hb9⟩; have B9 := Lib.hid (B8.out.trans (hb9.mono B8.out.size)); clear hb9))
  go_ret
  exact ⟨rfl, B9.out⟩
end Go.Proofs.YtnnmbpghkflepaaGreatDoor

namespace Go.Proofs.YtnnmbpghkflepaaGreatDoor
open Go.RowKit Go.PlainAid
set_option maxRecDepth 100000

theorem sg_beq (s t : Sg) (h : s = t) : (s.1 == t.1) = true ∧ (s.2.toList == t.2.toList) = true := by rw [h]; simp
theorem sg_bne (s t : Sg) (h : ¬ s = t) : (s.1 == t.1) = false ∨ ((s.1 == t.1) = true ∧ (s.2.toList == t.2.toList) = false) := by
  by_cases h1 : s.1 = t.1
  · exact Or.inr ⟨by simp [h1], str_bne _ _ (fun h2 => h (Prod.ext h1 h2))⟩
  · exact Or.inl (by simp [h1])

set_option maxHeartbeats 1600000 in
theorem sameG (v1 v2 : Value) (a b : List Sg) (w : World) (h1 : Gs w v1 a) (h2 : Gs w v2 b) (hz : a.length ≤ 1000000000) :
    Calls Tryz.prog 20 #[v1, v2] w fun e w' => e = .returned (.bool (decide (a = b))) ∧ Below w.heap.size w w' := by
  obtain ⟨A, cap, rfl, _, _, hc⟩ := h1
  obtain ⟨A2, cap2, rfl, _, _, hc2⟩ := h2
  have HC := Lib.hid hc
  have HC2 := Lib.hid hc2
  clear hc hc2
  by_cases hl : a.length = b.length
  · have HL := Lib.hid hl
    have c0 : ((a.length : Int) == (b.length : Int)) = true := by simp; omega
    clear hl
    go_enter Tryz.func20, Tryz.ntmps20
    go_wp2_with fail
    (try rw [c0])
    clear c0
    go_loopw [5] (fun i wr => ∃ (k : Nat), k ≤ a.length ∧ i = .int .i64 k ∧ a.take k = b.take k ∧ Below w.heap.size w wr) (fun i _ => a.length - (intOf i).toNat)
    case atStart => exact ⟨0, Nat.zero_le _, rfl, rfl, Below.refl _ _⟩
    case round =>
      obtain ⟨k, hk, rfl, ht, hbw⟩ := hrel
      have HT := Lib.hid ht
      have HW := Lib.hid hbw
      have hl2 := HL.out
      clear ht hbw
      by_cases hlt : k < a.length
      · have d0 : (k : Int) < (a.length : Int) := by omega
        have d1 : (k : Int) < (b.length : Int) := by omega
        have HX := Lib.hid (take_eq_next HT.out hlt (by omega))
        have HY := Lib.hid (@ne_at _ _ a b k)
        obtain ⟨x, o, rfl, hcell, hcelb⟩ := HC.out k hlt
        obtain ⟨x2, o2, rfl, hcell2, hcelb2⟩ := HC2.out k (by omega)
        have g1 : wr.cell? ⟨x, o + k * 2, none⟩ = some (.int .i64 (a.getD k default).1) := by rw [HW.out.cell (World.block_lt_of_cell? _ _ hcell)]; exact hcell
        have g2 : wr.cell? ⟨x2, o2 + k * 2, none⟩ = some (.int .i64 (b.getD k default).1) := by rw [HW.out.cell (World.block_lt_of_cell? _ _ hcell2)]; exact hcell2
        have g3 : wr.cell? ⟨x, o + k * 2 + 1, none⟩ = some (.string (a.getD k default).2) := by rw [HW.out.cell (World.block_lt_of_cell? _ _ hcelb)]; exact hcelb
        have g4 : wr.cell? ⟨x2, o2 + k * 2 + 1, none⟩ = some (.string (b.getD k default).2) := by rw [HW.out.cell (World.block_lt_of_cell? _ _ hcelb2)]; exact hcelb2
        clear hcell hcell2 hcelb hcelb2
        clear hl2
        generalize a.getD k default = s at *
        generalize b.getD k default = t at *
        by_cases hst : s = t
        · obtain ⟨q1, q2⟩ := sg_beq s t hst
          obtain ⟨s, s'⟩ := s
          obtain ⟨t, t'⟩ := t
          simp only at q1 q2 g1 g2 g3 g4
          have HST := Lib.hid hst
          clear hst
          go_wp2_with fail
          go_region
          go_wp2_with fail
          go_roundw
          case rel => exact ⟨k + 1, by omega, by go_num, HX.out HST.out, HW.out.drew⟩
          case measure => simp [intOf]; omega
        · have e0 : decide (a = b) = false := decide_eq_false (HY.out hst)
          have E0 := Lib.hid e0
          have hq := sg_bne s t hst
          clear e0 hst HX HY
          obtain ⟨s, s'⟩ := s
          obtain ⟨t, t'⟩ := t
          simp only at hq g1 g2 g3 g4
          rcases hq with q1 | ⟨q1, q2⟩
          all_goals
            go_wp2_with fail
            go_region
            go_wp2
            rw [E0.out]
            go_ret
            exact ⟨rfl, HW.out.drew⟩
      · obtain rfl : k = a.length := by omega
        have e0 : decide (a = b) = true := by
          have := HT.out
          rw [List.take_length, hl2, List.take_length] at this
          exact decide_eq_true this
        have E0 := Lib.hid e0
        clear e0 hl2
        go_wp2
        rw [E0.out]
        go_ret
        exact ⟨rfl, HW.out⟩
  · have c0 : ¬ (a.length : Int) = (b.length : Int) := by omega
    have c1 : ((a.length : Int) == (b.length : Int)) = false := by simpa using c0
    have e0 : decide (a = b) = false := decide_eq_false (fun h => hl (by rw [h]))
    have E0 := Lib.hid e0
    clear e0
    go_enter Tryz.func20, Tryz.ntmps20
    go_wp2
    rw [E0.out]
    go_ret
    exact ⟨rfl, Below.refl _ _⟩

end Go.Proofs.YtnnmbpghkflepaaGreatDoor
