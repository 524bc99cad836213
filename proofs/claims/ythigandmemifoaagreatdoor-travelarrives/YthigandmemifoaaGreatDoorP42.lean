/-
  Put together: KRec.
-/
import Derived.Test.YthigandmemifoaaGreatDoorP11
import Derived.Deep.RegionHeld3
import Derived.Deep.CutBlock
import Derived.Deep.DeepCutAuto
namespace Go.Proofs.YthigandmemifoaaGreatDoor
open Go.RowKit Go.PlainAid
set_option maxRecDepth 100000

section
variable {B : Nat} {w0 w w' : World} {v v2 : Value} {xs : List Rc} {ns : List Nat}
theorem ownR_one (w : World) (B : Nat) (w0 : World) (hb : Below B w0 w) (hB : B ≤ w.heap.size) (r : Rc) (hr : Gt w r.u r.l) : OwnR B w0 (.slice (some ⟨w.heap.size, 0, none⟩) 1 1) [r] (w.alloc (.cells (rcC r).toArray 26 (0, 0))) := by
  refine ⟨⟨rfl, .inr ⟨w.heap.size, 1, (rcC r).toArray, rfl, hB, blk_new w _, Nat.le_refl _, by unfold maxLen; omega, rfl, by simp [rcC]⟩⟩, hb.alloc hB _, by simp; omega, fun x hx => ?_⟩
  rw [List.mem_singleton] at hx
  subst hx
  exact hr.call ((Below.refl _ _).alloc (Nat.le_refl _) _)
theorem ownI_one (w : World) (B : Nat) (w0 : World) (hb : Below B w0 w) (hB : B ≤ w.heap.size) (x : Nat) : OwnI B w0 (.slice (some ⟨w.heap.size, 0, none⟩) 1 1) [x] (w.alloc (.cells #[.int .i64 (x : Int)] 3 (0, 0))) :=
  ⟨⟨rfl, .inr ⟨w.heap.size, 1, #[.int .i64 (x : Int)], rfl, hB, blk_new w _, Nat.le_refl _, by unfold maxLen; omega, rfl, by simp [niC]⟩⟩, hb.alloc hB _, by simp; omega⟩
theorem rowI3 {n : Nat} {us : List Value} (h : w.ownsRow B 3 1 v n us) : ∀ g, v.ownBlock = some g → ∃ cur t fz, w.heap[g]? = some (.cells cur t fz) ∧ t = 3 := by
  intro g hg
  obtain ⟨_, ⟨rfl, _⟩ | ⟨g', cap, cur, rfl, _, hk, _⟩⟩ := h
  · cases hg
  · cases hg
    exact ⟨cur, _, _, hk, rfl⟩
theorem rowR59 {n : Nat} {us : List Value} (h : w.ownsRow B 26 8 v n us) : ∀ g, v.ownBlock = some g → ∃ cur t fz, w.heap[g]? = some (.cells cur t fz) ∧ t = 26 := by
  intro g hg
  obtain ⟨_, ⟨rfl, _⟩ | ⟨g', cap, cur, rfl, _, hk, _⟩⟩ := h
  · cases hg
  · cases hg
    exact ⟨cur, _, _, hk, rfl⟩
/-- a row that grows leaves a row of another kind -/
theorem owns_other {e sz n : Nat} {us : List Value} {row : Option Nat} (h : w.ownsRow B e sz v n us) (hg : w.grownBy w' row) (hr : ∀ g, row = some g → ∃ cur t fz, w.heap[g]? = some (.cells cur t fz) ∧ t ≠ e) : w'.ownsRow B e sz v n us := by
  obtain ⟨h1, ⟨rfl, h2⟩ | ⟨g, cap, cur, rfl, hb, hk, h3⟩⟩ := h
  · exact ⟨h1, .inl ⟨rfl, h2⟩⟩
  · refine ⟨h1, .inr ⟨g, cap, cur, rfl, hb, ?_, h3⟩⟩
    rw [hg.block g (blk_lt hk) ?_]
    · exact hk
    · intro e2
      obtain ⟨cur', t, fz', hk', ht⟩ := hr g e2.symm
      rw [hk] at hk'
      cases hk'
      exact ht rfl
theorem OwnI.otherR (h2 : OwnI B w0 v2 ns w) (h : OwnR B w0 v xs w) (hg : w.grownBy w' v.ownBlock) : OwnI B w0 v2 ns w' :=
  ⟨owns_other h2.1 hg (fun g e => by obtain ⟨c, t, f, k, rfl⟩ := rowR59 h.1 g e; exact ⟨c, _, f, k, by decide⟩), h2.2.1.grown hg h2.2.2 (fun k hk => (h.1.lt k hk).1), by have := hg.size; have := h2.2.2; omega⟩
theorem OwnR.otherI (h2 : OwnR B w0 v xs w) (h : OwnI B w0 v2 ns w) (hg : w.grownBy w' v2.ownBlock) : OwnR B w0 v xs w' :=
  ⟨owns_other h2.1 hg (fun g e => by obtain ⟨c, t, f, k, rfl⟩ := rowI3 h.1 g e; exact ⟨c, _, f, k, by decide⟩), h2.2.1.grown hg h2.2.2.1 (fun k hk => (h.1.lt k hk).1), by have := hg.size; have := h2.2.2.1; omega,
    fun r hr => (h2.2.2.2 r hr).grown2 hg (fun g e => by obtain ⟨c, t, f, k, rfl⟩ := rowI3 h.1 g e; exact ⟨c, _, f, k, by decide⟩)⟩
theorem OwnI.lenI (h : OwnI B w0 v2 ns w) : ∃ A c, v2 = .slice A ns.length c := by
  obtain ⟨A, c, e, _⟩ := h.ni
  exact ⟨A, c, e⟩
theorem OwnR.rebase {B' : Nat} {w1 : World} (h : OwnR B w1 v xs w) (hB : B' ≤ B) (hb : Below B' w0 w1) : OwnR B' w0 v xs w := by
  obtain ⟨⟨h1, h2⟩, h3, h4, h5⟩ := h
  refine ⟨⟨h1, ?_⟩, hb.trans (h3.mono hB), by omega, h5⟩
  rcases h2 with h2 | ⟨g, cap, cur, r1, r2, r3⟩
  · exact Or.inl h2
  · exact Or.inr ⟨g, cap, cur, r1, by omega, r3⟩
end
/-- the seven slices of a table -/
structure KT (w' : World) (b : Nat) (A0 A1 A2 A3 A4 A5 A6 : Option Addr) (n0 n1 n2 n3 n4 n5 n6 c0 c1 c2 c3 c4 c5 c6 : Nat) (f0 f1 f2 f3 f4 f5 f6 : Nat → Int) : Prop where
  x0 : w'.cell? ⟨b, 0, none⟩ = some (.slice A0 n0 c0)
  x1 : w'.cell? ⟨b, 1, none⟩ = some (.slice A1 n1 c1)
  x2 : w'.cell? ⟨b, 2, none⟩ = some (.slice A2 n2 c2)
  x3 : w'.cell? ⟨b, 3, none⟩ = some (.slice A3 n3 c3)
  x4 : w'.cell? ⟨b, 4, none⟩ = some (.slice A4 n4 c4)
  x5 : w'.cell? ⟨b, 5, none⟩ = some (.slice A5 n5 c5)
  x6 : w'.cell? ⟨b, 6, none⟩ = some (.slice A6 n6 c6)
  i0 : Ia w' A0 n0 f0
  i1 : Ia w' A1 n1 f1
  i2 : Ia w' A2 n2 f2
  i3 : Ia w' A3 n3 f3
  i4 : Ia w' A4 n4 f4
  i5 : Ia w' A5 n5 f5
  i6 : Ia w' A6 n6 f6
  tx : ∀ i, i < 6 → w'.cell? ⟨b + 1, i, none⟩ = some (.string (ksT.getD i default))
theorem ks_mem (i : Nat) (h : i < 6) : ksT.getD i default ∈ ksT := getD_mem ksT i h
theorem kp3 (w : World) (rb : Nat) (a b c : Value) : Kp (fun x => x = rb) w (((w.setCell ⟨rb, 5, none⟩ a).setCell ⟨rb, 6, none⟩ b).setCell ⟨rb, 7, none⟩ c).drew :=
  ((((Kp.refl (fun x => x = rb) w).setCell (p := ⟨rb, 5, none⟩) (fun _ => rfl) a).setCell (p := ⟨rb, 6, none⟩) (fun _ => rfl) b).setCell (p := ⟨rb, 7, none⟩) (fun _ => rfl) c).drew
theorem rb3 {w : World} {rb : Nat} {v0 v1 v2 v3 v4 v5 v6 v7 : Value} (h : w.heap[rb]? = some (.cells #[v0, v1, v2, v3, v4, v5, v6, v7] 26 (0, 0))) (a b c : Value) :
    ((((w.setCell ⟨rb, 5, none⟩ a).setCell ⟨rb, 6, none⟩ b).setCell ⟨rb, 7, none⟩ c).drew).heap[rb]? = some (.cells #[v0, v1, v2, v3, v4, a, b, c] 26 (0, 0)) :=
  blk_setCell (blk_setCell (blk_setCell h 5 a) 6 b) 7 c
theorem kp1 (w : World) (rb : Nat) (c : Value) : Kp (fun x => x = rb) w (w.setCell ⟨rb, 7, none⟩ c) := (Kp.refl (fun x => x = rb) w).setCell (p := ⟨rb, 7, none⟩) (fun _ => rfl) c
theorem pickS (A : Option Addr) (n c : Nat) (f : Nat → Int) (i : Nat) (w : World) (h : Ia w A n f) :
    Calls Tryz.prog 27 #[.slice A n c, .int .i64 ((i : Int) + 1)] w fun e w' => ∃ x : Int, e = .returned (.int .i64 x) ∧ w' = w := by
  have := pick30 A n c f (i + 1) w h
  have e : (((i + 1 : Nat)) : Int) = (i : Int) + 1 := by omega
  rwa [e] at this
theorem KT.call {w w' : World} {b : Nat} {A0 A1 A2 A3 A4 A5 A6 : Option Addr} {n0 n1 n2 n3 n4 n5 n6 c0 c1 c2 c3 c4 c5 c6 : Nat} {f0 f1 f2 f3 f4 f5 f6 : Nat → Int} (h : KT w b A0 A1 A2 A3 A4 A5 A6 n0 n1 n2 n3 n4 n5 n6 c0 c1 c2 c3 c4 c5 c6 f0 f1 f2 f3 f4 f5 f6) (hb : Below w.heap.size w w') : KT w' b A0 A1 A2 A3 A4 A5 A6 n0 n1 n2 n3 n4 n5 n6 c0 c1 c2 c3 c4 c5 c6 f0 f1 f2 f3 f4 f5 f6 := by
  have k : ∀ (p : Addr) (v : Value), w.cell? p = some v → w'.cell? p = some v := fun p v hc => by rw [hb.cell (World.block_lt_of_cell? w _ hc)]; exact hc
  exact ⟨k _ _ h.x0, k _ _ h.x1, k _ _ h.x2, k _ _ h.x3, k _ _ h.x4, k _ _ h.x5, k _ _ h.x6, h.i0.call hb, h.i1.call hb, h.i2.call hb, h.i3.call hb, h.i4.call hb, h.i5.call hb, h.i6.call hb, fun i hi => k _ _ (h.tx i hi)⟩

def RecPost (w : World) (e : Ending) (w' : World) : Prop := ∃ v l ds, e = .returned v ∧ OwnR w.heap.size w v l w' ∧ RecOk l ds
set_option maxHeartbeats 25600000 in
theorem records7 (w : World) {A0 A1 A2 A3 A4 A5 A6 : Option Addr} {n0 n1 n2 n3 n4 n5 n6 c0 c1 c2 c3 c4 c5 c6 : Nat} {f0 f1 f2 f3 f4 f5 f6 : Nat → Int} (h0 : Ia w A0 n0 f0) (h1 : Ia w A1 n1 f1) (h2 : Ia w A2 n2 f2) (h3 : Ia w A3 n3 f3) (h4 : Ia w A4 n4 f4) (h5 : Ia w A5 n5 f5) (h6 : Ia w A6 n6 f6) :
    Calls Tryz.prog 10 #[.agg #[.slice A0 n0 c0, .slice A1 n1 c1, .slice A2 n2 c2, .slice A3 n3 c3, .slice A4 n4 c4, .slice A5 n5 c5, .slice A6 n6 c6]] w (RecPost w) := by
  have hn0 := h0.1
  have hn1 := h1.1
  have hn2 := h2.1
  have hn3 := h3.1
  have hn4 := h4.1
  have hn5 := h5.1
  have hn6 := h6.1
  have HX := Lib.hid (blk_alloc (blk_new w (.cells #[.slice A0 n0 c0, .slice A1 n1 c1, .slice A2 n2 c2, .slice A3 n3 c3, .slice A4 n4 c4, .slice A5 n5 c5, .slice A6 n6 c6] 44 (0, 0))) (.cells (ksT.map Value.string).toArray 9 (0, 0)))
  have HT := Lib.hid (blk_new1 w (.cells #[.slice A0 n0 c0, .slice A1 n1 c1, .slice A2 n2 c2, .slice A3 n3 c3, .slice A4 n4 c4, .slice A5 n5 c5, .slice A6 n6 c6] 44 (0, 0)) (.cells (ksT.map Value.string).toArray 9 (0, 0)))
  have HB := Lib.hid (((Below.refl w.heap.size w).alloc (Nat.le_refl _) (.cells #[.slice A0 n0 c0, .slice A1 n1 c1, .slice A2 n2 c2, .slice A3 n3 c3, .slice A4 n4 c4, .slice A5 n5 c5, .slice A6 n6 c6] 44 (0, 0))).alloc (by simp) (.cells (ksT.map Value.string).toArray 9 (0, 0)))
  have HK : Hid (KT ((w.alloc (.cells #[.slice A0 n0 c0, .slice A1 n1 c1, .slice A2 n2 c2, .slice A3 n3 c3, .slice A4 n4 c4, .slice A5 n5 c5, .slice A6 n6 c6] 44 (0, 0))).alloc (.cells (ksT.map Value.string).toArray 9 (0, 0))) w.heap.size A0 A1 A2 A3 A4 A5 A6 n0 n1 n2 n3 n4 n5 n6 c0 c1 c2 c3 c4 c5 c6 f0 f1 f2 f3 f4 f5 f6) := ⟨by rw [blk_cell HX.out]; rfl, by rw [blk_cell HX.out]; rfl, by rw [blk_cell HX.out]; rfl, by rw [blk_cell HX.out]; rfl, by rw [blk_cell HX.out]; rfl, by rw [blk_cell HX.out]; rfl, by rw [blk_cell HX.out]; rfl, h0.call HB.out, h1.call HB.out, h2.call HB.out, h3.call HB.out, h4.call HB.out, h5.call HB.out, h6.call HB.out, fun i hi => by
    rw [blk_cell HT.out]
    have hlw : i < ksT.length := hi
    simp [List.getD, hlw]⟩
  clear h0 h1 h2 h3 h4 h5 h6 HX HT
  go_enter Tryz.func10, Tryz.ntmps10
  go_wp2_with fail
  change Code.wp _ _ _ _ ((((w.alloc (.cells #[.slice A0 n0 c0, .slice A1 n1 c1, .slice A2 n2 c2, .slice A3 n3 c3, .slice A4 n4 c4, .slice A5 n5 c5, .slice A6 n6 c6] 44 (0, 0))).alloc (.cells (ksT.map Value.string).toArray 9 (0, 0))).alloc (.cells #[.string ⟨#[104, 111, 109, 101]⟩, .int .i64 (-1), .slice none 0 0, .int .i64 0, .bool false, .int .i64 0, .int .i64 0, .string ⟨#[]⟩] 26 (0, 0))).alloc (.cells #[.int .i64 0] 3 (0, 0)))
  have hz2 : ((w.alloc (.cells #[.slice A0 n0 c0, .slice A1 n1 c1, .slice A2 n2 c2, .slice A3 n3 c3, .slice A4 n4 c4, .slice A5 n5 c5, .slice A6 n6 c6] 44 (0, 0))).alloc (.cells (ksT.map Value.string).toArray 9 (0, 0))).heap.size = w.heap.size + 1 + 1 := by simp
  generalize (w.alloc (.cells #[.slice A0 n0 c0, .slice A1 n1 c1, .slice A2 n2 c2, .slice A3 n3 c3, .slice A4 n4 c4, .slice A5 n5 c5, .slice A6 n6 c6] 44 (0, 0))).alloc (.cells (ksT.map Value.string).toArray 9 (0, 0)) = w5 at *
  have O0 := Lib.hid (ownR_one w5 w5.heap.size w5 (Below.refl _ _) (Nat.le_refl _) ⟨homeT, -1, .slice none 0 0, [], 0, false, 0, 0, ⟨#[]⟩⟩ (gt_nil _))
  have I0 := Lib.hid (ownI_one (w5.alloc (.cells #[.string ⟨#[104, 111, 109, 101]⟩, .int .i64 (-1), .slice none 0 0, .int .i64 0, .bool false, .int .i64 0, .int .i64 0, .string ⟨#[]⟩] 26 (0, 0))) w5.heap.size w5 ((Below.refl _ _).alloc (Nat.le_refl _) _) (by simp) 0)
  have hz3 : (w5.alloc (.cells #[.string ⟨#[104, 111, 109, 101]⟩, .int .i64 (-1), .slice none 0 0, .int .i64 0, .bool false, .int .i64 0, .int .i64 0, .string ⟨#[]⟩] 26 (0, 0))).heap.size = w5.heap.size + 1 := by simp
  rw [hz3, hz2] at I0
  rw [hz2] at O0
  have O1 := Lib.hid (O0.out.alloc (.cells #[.int .i64 0] 3 (0, 0)))
  go_loopw [4, 5, 6] (fun s4 s5 s6 wr => ∃ (k : Nat) (l : List Rc) (ds : List Nat), k ≤ 7 ∧ s6 = .int .i64 k ∧ l.length = k + 1 ∧ Hid (RecOk l ds) ∧ Hid (OwnR w5.heap.size w5 s4 l wr) ∧ Hid (OwnI w5.heap.size w5 s5 ds wr)) (fun _ _ s6 _ => 7 - (intOf s6).toNat)
  case atStart =>
    rw [hz2]
    exact ⟨0, _, _, by omega, rfl, rfl, recOk_home _, O1.out, I0.out⟩
  case round =>
    obtain ⟨k, l, ds, hk7, rfl, hlen, HR, HO, HI⟩ := hrel
    have HBw := Lib.hid HO.out.below
    have HKr := Lib.hid (HK.out.call HBw.out)
    obtain ⟨P4, q4, e4⟩ := HO.out.rs.len
    subst e4
    obtain ⟨P5, q5, e5⟩ := HI.out.lenI
    have hdl := HR.out.dlen
    rw [hdl] at e5
    subst e5
    have HL := Lib.hid hlen
    obtain ⟨x0, x1, x2, x3, x4, x5, x6, i0, i1, i2, i3, i4, i5, i6, htx⟩ := HKr.out
    by_cases hc : k < n0 ∧ k < 7
    · obtain ⟨hcn, hc7⟩ := hc
      have d0 : (k : Int) < (n0 : Int) := by omega
      have d1 : (k : Int) < 7 := by omega
      have eL : ((l.length : Nat) : Int) - 1 = (k : Int) := by omega
      obtain ⟨b1, o1, rfl, hkc⟩ := i0.2 k hcn
      have II1 := Lib.hid i1
      have II2 := Lib.hid i2
      have II3 := Lib.hid i3
      have II4 := Lib.hid i4
      have II5 := Lib.hid i5
      have II6 := Lib.hid i6
      have HTX := Lib.hid htx
      clear i0 i1 i2 i3 i4 i5 i6 htx hlen
      go_upto_region 8 with (first | (go_at_call 17; refine (within1 _ k _ (by omega)).mono ?_; rintro e w' ⟨p0, hp1, hp2, rfl, hw⟩; rw [hw]; clear hw))
      go_cut [52] (fun s52 wz => ∃ bb : Bool, s52 = .bool bb ∧ wz = wr ∧ Hid (bb = false → p0 = -1 ∨ ∃ q : Nat, p0 = (q : Int) ∧ q < l.length ∧ ds.getD q 0 ≤ 3 ∧ lastB (l.getD q default).l = false))
      case first =>
        as_aux_lemma =>
          by_cases hp0 : 0 ≤ p0
          · obtain ⟨q, rfl⟩ : ∃ q : Nat, p0 = (q : Int) := ⟨p0.toNat, by omega⟩
            have hql : q < l.length := by have := HL.out; omega
            have dq : (q : Int) < (l.length : Int) := by omega
            obtain ⟨A5', c5', e5', -, -, hcd⟩ := HI.out.ni
            obtain ⟨b5, o5, e6', hcd⟩ := hcd q (by omega)
            obtain ⟨rfl, -, rfl⟩ := Value.slice.inj e5'
            clear e5'
            subst e6'
            obtain ⟨b4, o4, e7', hat, hgs⟩ := HO.out.rs.at q hql
            subst e7'
            have g2 := hat.c2
            obtain ⟨A7, n7, c7, h7⟩ := hgs.shape
            have HG7 : Hid (Gs wr (.slice A7 n7 c7) (l.getD q default).l) := by rw [← h7]; exact hgs
            rw [h7] at g2
            have HS1 := Lib.hid (HR.out.seg1 q hql)
            clear hat hgs h7
            generalize hdq : ds.getD q 0 = dd at *
            by_cases hd3 : dd ≤ 3
            · have hd3' : ¬ (3 : Int) < (dd : Int) := by omega
              generalize hlb : lastB (l.getD q default).l = lb at *
              have HLB := Lib.hid hlb
              clear hlb
              cases lb
              all_goals
                go_wp2_with (first | (go_at_call 26; refine (last27 _ _ _ HG7.out HS1.out).mono ?_; rintro e w' ⟨rfl, hw⟩; rw [HLB.out, hw]; clear hw))
                go_meet
              · exact ⟨_, rfl, rfl, fun _ => Or.inr ⟨q, rfl, hql, by rw [hdq]; exact hd3, HLB.out⟩⟩
              · exact ⟨_, rfl, rfl, fun h => by cases h⟩
            · have hd3' : (3 : Int) < (dd : Int) := by omega
              go_wp2_with fail
              go_meet
              exact ⟨_, rfl, rfl, fun h => by cases h⟩
          · go_wp2_with fail
            go_meet
            exact ⟨_, rfl, rfl, fun _ => Or.inl (by omega)⟩
      case rest =>
        obtain ⟨bb, rfl, hwz, HP⟩ := hcut
        rw [hwz]
        clear hwz
        go_upto_if 52 with fail
        go_cut [7] (fun s7 wz => ∃ p : Int, s7 = .int .i64 p ∧ wz = wr ∧ Hid (p = -1 ∨ ∃ q : Nat, p = (q : Int) ∧ q < l.length ∧ ds.getD q 0 ≤ 3 ∧ lastB (l.getD q default).l = false))
        case first =>
          as_aux_lemma =>
            cases bb
            · go_wp2_with fail
              go_meet
              exact ⟨_, rfl, rfl, HP.out (by first | rfl | trivial)⟩
            · go_wp2_with fail
              go_meet
              exact ⟨_, rfl, rfl, Or.inl rfl⟩
        case rest =>
          obtain ⟨p, rfl, hwz, HP⟩ := hcut
          rw [hwz]
          clear hwz
          go_upto_if 54 with fail
          go_cut [8] (fun s8 wz => ∃ d : Nat, s8 = .int .i64 d ∧ wz = wr ∧ d ≤ 4 ∧ Hid (ParR l ds l.length p d))
          case first =>
            as_aux_lemma =>
              have HPP := Lib.hid HP.out
              rcases HP.out with rfl | ⟨q, rfl, hql, hq3, hqb⟩
              · go_wp2_with fail
                go_meet
                exact ⟨1, rfl, rfl, by omega, Or.inl ⟨rfl, rfl⟩⟩
              · have dq : (q : Int) < (l.length : Int) := by omega
                obtain ⟨A5', c5', e5', -, -, hcd⟩ := HI.out.ni
                obtain ⟨b5, o5, e6', hcd⟩ := hcd q (by omega)
                obtain ⟨rfl, -, rfl⟩ := Value.slice.inj e5'
                clear e5'
                subst e6'
                have HQB := Lib.hid hqb
                clear hqb
                generalize hdq : ds.getD q 0 = dd at *
                go_wp2_with fail
                go_meet
                exact ⟨dd + 1, by go_num, rfl, by omega, Or.inr ⟨q, rfl, hql, by rw [hdq]; exact hq3, HQB.out, by rw [hdq]⟩⟩
          case rest =>
            obtain ⟨d, rfl, hwz, hd4, HPR⟩ := hcut
            rw [hwz]
            clear hwz
            have c97 : (97 + (k : Int)) % 256 = 97 + (k : Int) := by omega
            have hcv := one_text (wr.alloc (.cells #[.int .u8 (97 + (k : Int))] 5 (0, 0))) wr.heap.size 1 (97 + (k : Int)) (by rw [blk_cell (blk_new _ _)]; rfl)
            have HB1 := Lib.hid ((Below.refl wr.heap.size wr).alloc (Nat.le_refl _) (.cells #[.int .u8 (97 + (k : Int))] 5 (0, 0)))
            have HDz : Hid ((st [97 + (k : Int)]).size = 1) := by show _ = _; rw [st_size]; rfl
            have HDe : Hid (st [97 + (k : Int)] = st [96 + (l.length : Int)]) := by
              have := HL.out
              show _ = _
              rw [show (96 + (l.length : Int)) = 97 + (k : Int) by omega]
            go_upto_region 14 with fail
            clear hcv c97 x0 x1 x2 x3 x4 x5 x6 hkc II1 II2 II3 II4 II5 II6 HTX
            generalize wr.alloc (.cells #[.int .u8 (97 + (k : Int))] 5 (0, 0)) = w1 at *
            generalize st [97 + (k : Int)] = D at *
            have HK1 := Lib.hid (HKr.out.call HB1.out)
            obtain ⟨pv1, hpv1⟩ : ∃ pv, pv = pickV n1 f1 k := ⟨_, rfl⟩
            have wt1 := wi_in pv1 4 (by omega)
            obtain ⟨kn, hkn⟩ : ∃ tn : Nat, wi pv1 4 = (tn : Int) := ⟨(wi pv1 4).toNat, by omega⟩
            have hkn4 : kn ≤ 4 := by omega
            have HPV1 := Lib.hid hpv1
            have HKN := Lib.hid hkn
            have y1 := HK1.out.x1
            have n9 : ¬ 9223372036854775807 < 1 + D.size := by have := HDz.out; omega
            have HK2 := Lib.hid (HK1.out.call ((Below.refl w1.heap.size w1).alloc (Nat.le_refl _) (.cells #[.int .i64 ((kn : Int) - 1), .string (⟨#[112]⟩ ++ D)] 28 (0, 0))))
            clear hpv1 hkn wt1
            go_upto_if 76 with (first
              | (go_at_call 27; refine (pickV30 _ _ _ _ _ pv1 _ HK1.out.i1 HPV1.out).mono ?_; rintro e w' ⟨rfl, hw⟩; rw [hw]; clear hw)
              | (go_at_call 17; refine (within_nat _ 4 kn _ (by omega) HKN.out).mono ?_; rintro e w' ⟨rfl, hw⟩; rw [hw]; clear hw))
            clear y1
            go_cut [] (fun wz => ∃ g : Sg, wz = w1.alloc (.cells #[.int .i64 g.1, .string g.2] 28 (0, 0)) ∧ Hid (SegR l.length g))
            case first =>
              as_aux_lemma =>
                by_cases hk1 : kn ≤ 1
                · have dk : ((kn : Int) - 1) ≤ 0 := by omega
                  obtain ⟨pv2, hpv2⟩ : ∃ pv, pv = pickV n2 f2 k := ⟨_, rfl⟩
                  have wt2 := wi_in pv2 5 (by omega)
                  obtain ⟨tn, htn⟩ : ∃ tn : Nat, wi pv2 5 = (tn : Int) := ⟨(wi pv2 5).toNat, by omega⟩
                  have htn5 : tn ≤ 5 := by omega
                  have dt : (tn : Int) < 6 := by omega
                  have HPV2 := Lib.hid hpv2
                  have HTN := Lib.hid htn
                  have y2 := HK2.out.x2
                  have yt := HK2.out.tx tn (by omega)
                  have HKM := Lib.hid (ks_mem tn (by omega))
                  clear hpv2 htn wt2
                  generalize ksT.getD tn default = TT at *
                  go_wp2_with (first
                    | (go_at_call 27; refine (pickV30 _ _ _ _ _ pv2 _ HK2.out.i2 HPV2.out).mono ?_; rintro e w' ⟨rfl, hw⟩; rw [hw]; clear hw)
                    | (go_at_call 17; refine (within_nat _ 5 tn _ (by omega) HTN.out).mono ?_; rintro e w' ⟨rfl, hw⟩; rw [hw]; clear hw))
                  go_meet
                  exact ⟨(0, TT), rfl, Or.inl ⟨rfl, HKM.out⟩⟩
                · have dk : ¬ ((kn : Int) - 1) ≤ 0 := by omega
                  go_wp2_with fail
                  go_meet
                  exact ⟨((kn : Int) - 1, (⟨#[112]⟩ : ByteArray) ++ D), rfl, Or.inr ⟨by omega, by rw [HDe.out]⟩⟩
            case rest =>
              obtain ⟨g, hwz, HSG⟩ := hcut
              rw [hwz]
              clear hwz HK2
              have S2 := Lib.hid (blk_new w1 (.cells #[.int .i64 g.1, .string g.2] 28 (0, 0)))
              have HB2 := Lib.hid (HB1.out.alloc HB1.out.size (.cells #[.int .i64 g.1, .string g.2] 28 (0, 0)))
              have hs2 : (w1.alloc (.cells #[.int .i64 g.1, .string g.2] 28 (0, 0))).heap.size = w1.heap.size + 1 := by simp
              go_upto_region 17 with fail
              generalize w1.alloc (.cells #[.int .i64 g.1, .string g.2] 28 (0, 0)) = w2 at *
              have hwr1 := HB1.out.size
              generalize w1.heap.size = sb at *
              have HK3 := Lib.hid (HKr.out.call HB2.out)
              have HSZ2 := Lib.hid hs2
              have HSB := Lib.hid hwr1
              clear HK1 hs2 hwr1 HKN HPV1
              obtain ⟨pv5, hpv5⟩ : ∃ pv, pv = pickV n5 f5 k := ⟨_, rfl⟩
              obtain ⟨pv6, hpv6⟩ : ∃ pv, pv = pickV n6 f6 k := ⟨_, rfl⟩
              have wt6 := wi_in pv6 3 (by omega)
              obtain ⟨cn, hcn3⟩ : ∃ tn : Nat, wi pv6 3 = (tn : Int) := ⟨(wi pv6 3).toNat, by omega⟩
              have HPV5 := Lib.hid hpv5
              have HPV6 := Lib.hid hpv6
              have HCN := Lib.hid hcn3
              have n9 : ¬ 9223372036854775807 < 1 + D.size := by have := HDz.out; omega
              clear hpv5 hpv6 hcn3 wt6
              obtain ⟨g1, g2⟩ := g
              have KS : Hid (∀ w' : World, Below w2.heap.size w2 w' → w'.cell? ⟨sb, 0, none⟩ = some (.int .i64 g1) ∧ w'.cell? ⟨sb, 1, none⟩ = some (.string g2) ∧ w'.cell? ⟨w.heap.size, 5, none⟩ = some (.slice A5 n5 c5) ∧ w'.cell? ⟨w.heap.size, 6, none⟩ = some (.slice A6 n6 c6) ∧ Below w2.heap.size w2 w') := by
                intro w' hk
                have hb := blk2 (blk_call S2.out hk)
                have hkt := HK3.out.call hk
                exact ⟨hb.1, hb.2.1, hkt.x5, hkt.x6, hk⟩
              go_cut [11] (fun s11 wz => ∃ (sg rb : Nat) (cc : Int) (kb : Bool), s11 = .pointer (some ⟨rb, 0, none⟩) ∧ Hid (Below w2.heap.size w2 wz) ∧ Hid (wz.heap[sg]? = some (.cells #[.int .i64 g1, .string g2] 28 (0, 0))) ∧ Hid (wz.heap[rb]? = some (.cells #[.string (⟨#[114]⟩ ++ D), .int .i64 p, .slice (some ⟨sg, 0, none⟩) 1 1, .int .i64 cc, .bool kb, .int .i64 0, .int .i64 0, .string ⟨#[]⟩] 26 (0, 0))) ∧ Hid (w2.heap.size ≤ rb))
              case first =>
                as_aux_lemma =>
                  go_region_held3 (fun w' => w'.cell? ⟨sb, 0, none⟩ = some (.int .i64 g1) ∧ w'.cell? ⟨sb, 1, none⟩ = some (.string g2) ∧ w'.cell? ⟨w.heap.size, 5, none⟩ = some (.slice A5 n5 c5) ∧ w'.cell? ⟨w.heap.size, 6, none⟩ = some (.slice A6 n6 c6) ∧ Below w2.heap.size w2 w')
                    (first | exact KS.out _ ((Below.refl _ _).drew) | exact KS.out _ (((Below.refl _ _).alloc (Nat.le_refl _) _).drew) | exact KS.out _ ((((Below.refl _ _).alloc (Nat.le_refl _) _).alloc (by simp) _).drew))
                    (first
                      | (go_at_call_of 17 pv6; refine (within_nat _ 3 cn _ (by omega) HCN.out).mono ?_; rintro e w' ⟨rfl, rfl⟩)
                      | (go_at_call_of 27 A5; refine (pickV30 _ _ _ _ _ pv5 _ (HK3.out.i5.call (by first | exact (Below.refl _ _).drew | exact ((Below.refl _ _).alloc (Nat.le_refl _) _).drew | exact (((Below.refl _ _).alloc (Nat.le_refl _) _).alloc (by simp) _).drew)) HPV5.out).mono ?_; rintro e w' ⟨rfl, rfl⟩)
                      | (go_at_call_of 27 A6; refine (pickV30 _ _ _ _ _ pv6 _ (HK3.out.i6.call (by first | exact (Below.refl _ _).drew | exact ((Below.refl _ _).alloc (Nat.le_refl _) _).drew | exact (((Below.refl _ _).alloc (Nat.le_refl _) _).alloc (by simp) _).drew)) HPV6.out).mono ?_; rintro e w' ⟨rfl, rfl⟩))
                  all_goals
                    go_wp2_with fail
                    go_meet
                    first
                      | exact ⟨w2.heap.size, w2.heap.size + 1, _, _, rfl, (((Below.refl _ w2).alloc (Nat.le_refl _) _).alloc (by simp) _).drew, blk_alloc (blk_new w2 _) _, blk_new1 w2 _ _, Nat.le_succ _⟩
                      | exact ⟨w2.heap.size + 1, w2.heap.size, _, _, rfl, (((Below.refl _ w2).alloc (Nat.le_refl _) _).alloc (by simp) _).drew, blk_new1 w2 _ _, blk_alloc (blk_new w2 _) _, Nat.le_refl _⟩
              case rest =>
                obtain ⟨sg, rb, cc, kb, rfl, BZ, SG, RB, hrb⟩ := hcut
                clear KS HPV5 HPV6 HCN
                have HB3 := Lib.hid (HB2.out.trans (BZ.out.mono HB2.out.size))
                have HK4 := Lib.hid (HKr.out.call HB3.out)
                have hrw : Hid (wr.heap.size ≤ rb) := (show wr.heap.size ≤ rb by have := HB2.out.size; have := hrb.out; omega)
                generalize wc = w3 at *
                obtain ⟨pv3, hpv3⟩ : ∃ pv, pv = pickV n3 f3 k := ⟨_, rfl⟩
                have HPV3 := Lib.hid hpv3
                have y3 := HK4.out.x3
                clear hpv3
                go_upto_if 111 with (first | (go_at_call 27; refine (pickV30 _ _ _ _ _ pv3 _ HK4.out.i3 HPV3.out).mono ?_; rintro e w' ⟨rfl, hw⟩; rw [hw]; clear hw))
                clear y3
                go_cut [] (fun wz => ∃ (rk rf : Int) (rt : ByteArray), Hid (Kp (fun b => b = rb) w3 wz) ∧ Hid (wz.heap[rb]? = some (.cells #[.string (⟨#[114]⟩ ++ D), .int .i64 p, .slice (some ⟨sg, 0, none⟩) 1 1, .int .i64 cc, .bool kb, .int .i64 rk, .int .i64 rf, .string rt] 26 (0, 0))))
                case first =>
                  as_aux_lemma =>
                    generalize (bits BinOp.and IntKind.i64 pv3 3 == 3) = bq at *
                    cases bq
                    · go_wp2_with fail
                      go_meet
                      exact ⟨0, 0, ⟨#[]⟩, Kp.refl _ _, RB.out⟩
                    · go_upto_region 19 with fail
                      obtain ⟨pv4, hpv4⟩ : ∃ pv, pv = pickV n4 f4 k := ⟨_, rfl⟩
                      have HPV4 := Lib.hid hpv4
                      clear hpv4
                      have KS6 : Hid (∀ w' : World, Kp (fun b => b = rb) w3 w' → w'.cell? ⟨w.heap.size, 3, none⟩ = some (.slice A3 n3 c3) ∧ w'.cell? ⟨w.heap.size, 4, none⟩ = some (.slice A4 n4 c4) ∧ Kp (fun b => b = rb) w3 w') := by
                        intro w' hk
                        have hb : w.heap.size < w3.heap.size := World.block_lt_of_cell? _ _ HK4.out.x3
                        have hne : ¬ w.heap.size = rb := by
                          have h1 := hrw.out
                          have h2 := World.block_lt_of_cell? _ _ HKr.out.x3
                          have h2 : w.heap.size < wr.heap.size := h2
                          omega
                        exact ⟨(hk.cell hb hne).trans HK4.out.x3, (hk.cell hb hne).trans HK4.out.x4, hk⟩
                      have r5 : w3.cell? ⟨rb, 5, none⟩ = some (.int .i64 0) := by rw [blk_cell RB.out]; rfl
                      have r6 : w3.cell? ⟨rb, 6, none⟩ = some (.int .i64 0) := by rw [blk_cell RB.out]; rfl
                      have r7 : w3.cell? ⟨rb, 7, none⟩ = some (.string ⟨#[]⟩) := by rw [blk_cell RB.out]; rfl
                      have z5 : w3.frozen? ⟨rb, 5, none⟩ = false := blk_frozen RB.out _
                      have z6 : w3.frozen? ⟨rb, 6, none⟩ = false := blk_frozen RB.out _
                      have z7 : w3.frozen? ⟨rb, 7, none⟩ = false := blk_frozen RB.out _
                      go_region_held3 (fun w' => w'.cell? ⟨w.heap.size, 3, none⟩ = some (.slice A3 n3 c3) ∧ w'.cell? ⟨w.heap.size, 4, none⟩ = some (.slice A4 n4 c4) ∧ Kp (fun b => b = rb) w3 w')
                        (first | exact KS6.out _ ((Kp.refl _ _).drew) | exact KS6.out _ (kp3 _ _ _ _ _))
                        (first
                          | (go_at_call_of 27 A3; refine (pickV30 _ _ _ _ _ pv3 _ (HK4.out.i3.call ((Below.refl _ _).drew)) HPV3.out).mono ?_; rintro e w' ⟨rfl, rfl⟩)
                          | (go_at_call_of 27 A4; refine (pickV30 _ _ _ _ _ pv4 _ (HK4.out.i4.call ((Below.refl _ _).drew)) HPV4.out).mono ?_; rintro e w' ⟨rfl, rfl⟩)
                          | (go_at_call_of 17 pv4; refine (within19 _ 3 _ (by omega)).mono ?_; rintro e w' ⟨rfn, hrfn, rfl, rfl⟩)
                          | (go_at_call 17; refine (within19 _ 4 _ (by omega)).mono ?_; rintro e w' ⟨rkn, hrkn, rfl, rfl⟩))
                      have K6 := Lib.hid (kp3 w3 rb (.int .i64 (rkn : Int)) (.int .i64 (rfn : Int)) (.string ⟨#[]⟩))
                      have R6 := Lib.hid (rb3 RB.out (.int .i64 (rkn : Int)) (.int .i64 (rfn : Int)) (.string ⟨#[]⟩))
                      generalize (((w3.setCell ⟨rb, 5, none⟩ (.int .i64 (rkn : Int))).setCell ⟨rb, 6, none⟩ (.int .i64 (rfn : Int))).setCell ⟨rb, 7, none⟩ (.string ⟨#[]⟩)).drew = w6 at *
                      have q5 : w6.cell? ⟨rb, 5, none⟩ = some (.int .i64 (rkn : Int)) := by rw [blk_cell R6.out]; rfl
                      have q7 : w6.cell? ⟨rb, 7, none⟩ = some (.string ⟨#[]⟩) := by rw [blk_cell R6.out]; rfl
                      have zf7 : w6.frozen? ⟨rb, 7, none⟩ = false := blk_frozen R6.out _
                      have Y4 := Lib.hid (KS6.out w6 K6.out).2.1
                      have BW6 : Hid (Below wr.heap.size wr w6) := HB3.out.trans (K6.out.below HB3.out.size (fun j hj e => by have := hrw.out; omega))
                      have H6R := Lib.hid (HO.out.rs.call BW6.out)
                      have I46 : Hid (Ia w6 A4 n4 f4) := HKr.out.i4.call BW6.out
                      clear r5 r6 r7 z5 z6 z7 KS6
                      by_cases h34 : rkn = 3 ∨ rkn = 4
                      · have y4 := Y4.out
                        rcases h34 with rfl | rfl
                        all_goals
                          go_wp2_with (first
                            | (go_at_call 27; refine (pickS _ _ _ _ _ _ I46.out).mono ?_; rintro e w' ⟨xx, rfl, hw⟩; rw [hw]; clear hw)
                            | (go_at_call 17; refine (within19 _ k _ (by omega)).mono ?_; rintro e w' ⟨tn, htn, rfl, hw⟩; rw [hw]; clear hw; have dtn : (tn : Int) < (l.length : Int) := (by have := HL.out; omega); obtain ⟨b8, o8, e8, hat8, -⟩ := H6R.out.at tn (by omega); have q8 := hat8.c0; clear hat8; subst e8))
                          go_meet
                          exact ⟨_, _, _, K6.out.trans (kp1 _ _ _) (fun i hi h => h), blk_setCell R6.out 7 _⟩
                      · have e3 : ((rkn : Int) == 3) = false := by simp; omega
                        have e4 : ((rkn : Int) == 4) = false := by simp; omega
                        clear h34
                        go_wp2_with fail
                        go_meet
                        exact ⟨_, _, _, K6.out, R6.out⟩
                case rest =>
                  obtain ⟨rk, rf, rt, K7, R7⟩ := hcut
                  generalize wc = w7 at *
                  have BW7 : Hid (Below wr.heap.size wr w7) := HB3.out.trans (K7.out.below HB3.out.size (fun j hj e => by have := hrw.out; omega))
                  have SG7 : Hid (w7.heap[sg]? = some (.cells #[.int .i64 g1, .string g2] 28 (0, 0))) := by
                    refine (K7.out.block sg (blk_lt SG.out) (fun e => ?_)).trans SG.out
                    subst e
                    have := SG.out.symm.trans RB.out
                    cases this
                  have O7 := Lib.hid (HO.out.call BW7.out)
                  have I7 := Lib.hid (HI.out.call BW7.out)
                  have t0 : w7.cell? ⟨rb, 0, none⟩ = some (.string (⟨#[114]⟩ ++ D)) := by rw [blk_cell R7.out]; rfl
                  have t1 : w7.cell? ⟨rb, 1, none⟩ = some (.int .i64 p) := by rw [blk_cell R7.out]; rfl
                  have t2 : w7.cell? ⟨rb, 2, none⟩ = some (.slice (some ⟨sg, 0, none⟩) 1 1) := by rw [blk_cell R7.out]; rfl
                  have t3 : w7.cell? ⟨rb, 3, none⟩ = some (.int .i64 cc) := by rw [blk_cell R7.out]; rfl
                  have t4 : w7.cell? ⟨rb, 4, none⟩ = some (.bool kb) := by rw [blk_cell R7.out]; rfl
                  have t5 : w7.cell? ⟨rb, 5, none⟩ = some (.int .i64 rk) := by rw [blk_cell R7.out]; rfl
                  have t6 : w7.cell? ⟨rb, 6, none⟩ = some (.int .i64 rf) := by rw [blk_cell R7.out]; rfl
                  have t7 : w7.cell? ⟨rb, 7, none⟩ = some (.string rt) := by rw [blk_cell R7.out]; rfl
                  have OX := Lib.hid (O7.out.alloc (.cells #[.string (⟨#[114]⟩ ++ D), .int .i64 p, .slice (some ⟨sg, 0, none⟩) 1 1, .int .i64 cc, .bool kb, .int .i64 rk, .int .i64 rf, .string rt] 26 (0, 0)))
                  have IX := Lib.hid (I7.out.alloc (.cells #[.string (⟨#[114]⟩ ++ D), .int .i64 p, .slice (some ⟨sg, 0, none⟩) 1 1, .int .i64 cc, .bool kb, .int .i64 rk, .int .i64 rf, .string rt] 26 (0, 0)))
                  have GX : Hid (Gt (w7.alloc (.cells #[.string (⟨#[114]⟩ ++ D), .int .i64 p, .slice (some ⟨sg, 0, none⟩) 1 1, .int .i64 cc, .bool kb, .int .i64 rk, .int .i64 rf, .string rt] 26 (0, 0))) (.slice (some ⟨sg, 0, none⟩) 1 1) [(g1, g2)]) := by
                    have h9 := blk_alloc SG7.out (.cells #[.string (⟨#[114]⟩ ++ D), .int .i64 p, .slice (some ⟨sg, 0, none⟩) 1 1, .int .i64 cc, .bool kb, .int .i64 rk, .int .i64 rf, .string rt] 26 (0, 0))
                    exact ⟨gs_new (l := [(g1, g2)]) h9 rfl, fun b o n c e => by cases e; exact ⟨_, _, h9⟩⟩
                  go_wp2_with (first
                    | (at_builtin; refine wpList_appR rfl (.tmp 150) (.tmp 152) rfl rfl OX.out (by have := HL.out; omega) w7.heap.size 1 1 [⟨(⟨#[114]⟩ : ByteArray) ++ D, p, .slice (some ⟨sg, 0, none⟩) 1 1, [(g1, g2)], cc, kb, rk, rf, rt⟩] rfl rfl (by omega) (blk_new w7 _) (fun r hr => (by rw [List.mem_singleton] at hr; subst hr; exact GX.out)) ?_; intro v8 w8 h8 hg8 _; have O8 := Lib.hid h8; have I8 := Lib.hid (IX.out.otherR OX.out hg8); obtain ⟨A8, n8, c8, e8⟩ := h8.shape; subst e8; clear h8 hg8)
                    | (at_builtin; refine wpList_appI (w := w8.alloc (.cells #[.int .i64 (d : Int)] 3 (0, 0))) rfl (.tmp 154) (.tmp 156) rfl rfl (I8.out.alloc (.cells #[.int .i64 (d : Int)] 3 (0, 0))) (by have := HL.out; omega) w8.heap.size d rfl (blk_new w8 _) ?_; intro v9 w9 h9 hg9; have I9 := Lib.hid h9; have O9 := Lib.hid ((O8.out.alloc (.cells #[.int .i64 (d : Int)] 3 (0, 0))).otherI (I8.out.alloc (.cells #[.int .i64 (d : Int)] 3 (0, 0))) hg9); obtain ⟨A9, n9', c9', e9⟩ := h9.shapeC; subst e9; clear h9 hg9))
                  go_roundw
                  case rel =>
                    refine ⟨k + 1, _, _, by omega, by go_num, ?_, ?_, O9.out, I9.out⟩
                    · have := HL.out
                      simp; omega
                    · exact HR.out.push (by have := HL.out; omega) _ d (by show _ = _; rw [HDe.out]) HPR.out (g1, g2) rfl HSG.out
                  case measure => simp [intOf]; omega
    · have hc0 := hc
      clear hlen hdl
      have HO2 := Lib.hid (HO.out.rebase HB.out.size HB.out)
      have hxx : (¬ (k : Int) < (n0 : Int)) ∨ ((k : Int) < (n0 : Int) ∧ ¬ (k : Int) < 7) := by omega
      rcases hxx with c0 | ⟨c0, c5⟩
      all_goals
        go_wp2
        go_ret
        exact ⟨_, l, ds, rfl, HO2.out, HR.out⟩
end Go.Proofs.YthigandmemifoaaGreatDoor
