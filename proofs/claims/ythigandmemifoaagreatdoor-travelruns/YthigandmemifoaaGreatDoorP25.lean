/-
  Put together: KeepURL.
-/
import Derived.Test.YthigandmemifoaaGreatDoorP05
import Derived.Test.YthigandmemifoaaGreatDoorP24
import Derived.Test.YthigandmemifoaaGreatDoorP07
import Derived.Deep.RegionLaw
import Derived.Deep.CutBlock
import Derived.Deep.DeepCutAuto
namespace Go.Proofs.YthigandmemifoaaGreatDoor
open Go.RowKit Go.PlainAid
set_option maxRecDepth 100000

theorem step_appS {ops : Array Oper} {o : Oper} {a : Act} {K : Act → World → Prop} {Q : Exit → Act → World → Prop} {F : Prop} (w : World) (hw : Region.wanted o (yielded ops a.tmps) = true) (s x : Operand)
    (ho : o.op = .call { callee := .builtin .append, args := #[s, x], argTypes := #[30, 30] })
    (B : Nat) (w0 : World) (v : Value) (xs : List ByteArray) (hs : a.eval s = v) (hown : OwnS B w0 v xs w) (hn : xs.length ≤ 1000000000)
    (b m c : Nat) (ys : List ByteArray) (hx : a.eval x = .slice (some ⟨b, 0, none⟩) m c) (hm : ys.length = m) (hm1 : m ≤ 10) (hb : w.heap[b]? = some (.cells (ys.flatMap stC).toArray 9 (0, 0)))
    (h : ∀ v' w', OwnS B w0 v' (xs ++ ys) w' → w.grownBy w' v.ownBlock → K (a.put o.dst v') w') :
    if Region.wanted o (yielded ops a.tmps) = true then Oper.wp Tryz.prog o a w K Q else F := by
  rw [if_pos hw]
  exact wp_appS w s x ho B w0 v xs hs hown hn ⟨b, 0, none⟩ m c ys hx hm hm1 (World.news_of_block hb) fun v' w' h2 h3 _ => h v' w' h2 h3
theorem step_appP {ops : Array Oper} {o : Oper} {a : Act} {K : Act → World → Prop} {Q : Exit → Act → World → Prop} {F : Prop} (w : World) (hw : Region.wanted o (yielded ops a.tmps) = true) (s x : Operand)
    (ho : o.op = .call { callee := .builtin .append, args := #[s, x], argTypes := #[31, 31] })
    (B : Nat) (w0 : World) (v : Value) (xs : List Pr) (hs : a.eval s = v) (hown : OwnP B w0 v xs w) (hn : xs.length ≤ 1000000000)
    (b m c : Nat) (ys : List Pr) (hx : a.eval x = .slice (some ⟨b, 0, none⟩) m c) (hm : ys.length = m) (hm1 : m ≤ 10) (hb : w.heap[b]? = some (.cells (ys.flatMap prC).toArray 61 (0, 0)))
    (h : ∀ v' w', OwnP B w0 v' (xs ++ ys) w' → w.grownBy w' v.ownBlock → K (a.put o.dst v') w') :
    if Region.wanted o (yielded ops a.tmps) = true then Oper.wp Tryz.prog o a w K Q else F := by
  rw [if_pos hw]
  exact wp_appP w s x ho B w0 v xs hs hown hn ⟨b, 0, none⟩ m c ys hx hm hm1 (World.news_of_block hb) fun v' w' h2 h3 _ => h v' w' h2 h3

theorem alloc4 (w : World) (a b c d : Obj) : ((((w.alloc a).alloc b).alloc c).alloc d).heap[w.heap.size]? = some a ∧ ((((w.alloc a).alloc b).alloc c).alloc d).heap[w.heap.size + 1]? = some b ∧ ((((w.alloc a).alloc b).alloc c).alloc d).heap[w.heap.size + 1 + 1]? = some c ∧ ((((w.alloc a).alloc b).alloc c).alloc d).heap[w.heap.size + 1 + 1 + 1]? = some d ∧ Below w.heap.size w ((((w.alloc a).alloc b).alloc c).alloc d) ∧ ((((w.alloc a).alloc b).alloc c).alloc d).heap.size = w.heap.size + 4 := by
  refine ⟨blk_alloc (blk_alloc (blk_alloc (blk_new _ _) _) _) _, blk_alloc (blk_alloc (blk_new1 _ _ _) _) _, ?_, ?_, ?_, by simp⟩
  · have := blk_alloc (blk_new1 (w.alloc a) b c) d
    simpa using this
  · have := blk_new1 ((w.alloc a).alloc b) c d
    simpa using this
  · exact ((((Below.refl _ _).alloc (Nat.le_refl _) _).alloc (by simp) _).alloc (by simp; omega) _).alloc (by simp; omega) _

def KeepOK (p : List ByteArray) (q : List Pr) : Prop := p.length ≤ 5 ∧ q.length ≤ 3 ∧ (∀ s ∈ p, s ∈ wordsL) ∧ ∀ x ∈ q, x.1 ∈ wordsL ∧ x.2 ∈ wordsL

def KeepPost (w : World) (e : Ending) (w' : World) : Prop := ∃ v1 v2 p q, e = .returned (.agg #[v1, v2]) ∧ Ss w' v1 p ∧ Ps w' v2 q ∧ KeepOK p q ∧ Below w.heap.size w w'

theorem blk_set2u {w : World} {b : Nat} {x0 y0 : Value} {t : TypeId} (h : w.heap[b]? = some (.cells #[x0, y0] t (0, 0))) (x y : Value) : ((w.setCell ⟨b, 0, none⟩ x).setCell ⟨b, 1, none⟩ y).heap[b]? = some (.cells #[x, y] t (0, 0)) :=
  blk_setCell (blk_setCell h 0 x) 1 y
theorem size25u : (Tryz.prog.info? 33).map (·.size) = some 2 := by kernel_rfl
theorem url_end {tmps : Array Value} {w w7 : World} {R : Nat} {A3 A4 : Option Addr} {n3 p3 n4 p4 : Nat} {p : List ByteArray} {q : List Pr} (ht : tmps.getD 2 undef = .pointer (some ⟨R, 0, none⟩))
    (hR : w7.heap[R]? = some (.cells #[.slice none 0 0, .slice none 0 0] 33 (0, 0))) (h5 : Ss w7 (.slice A3 n3 p3) p) (h4 : Ps w7 (.slice A4 n4 p4) q) (hk : KeepOK p q) (hb : Below w.heap.size w w7) (hl : w.heap.size ≤ R) :
    bodyPost Tryz.prog Tryz.f11 (fun e w' => KeepPost w e w') .ret ⟨tmps, []⟩ ((w7.setCell ⟨R, 0, none⟩ (.slice A3 n3 p3)).setCell ⟨R, 1, none⟩ (.slice A4 n4 p4)) := by
  refine bodyPost_ret (v := .agg #[.slice A3 n3 p3, .slice A4 n4 p4]) (results_cell_row (P := Tryz.prog) rfl _ _ R 33 #[.slice A3 n3 p3, .slice A4 n4 p4] (0, 0) _ ht (blk_set2u hR _ _) Tryz.underlying33 rfl size25u) rfl ⟨_, _, p, q, rfl, h5.set2 hR _ _, h4.set2 hR _ _, hk, ?_⟩
  exact (hb.setCell hl _).setCell hl _

set_option maxRecDepth 100000 in
set_option maxHeartbeats 64000000 in
theorem url13 (A1 A2 A3 : Option Addr) (n1 c1 n2 c2 n3 c3 : Nat) (f1 f2 f3 : Nat → Int) (w : World) (h1 : Ia w A1 n1 f1) (h2 : Ia w A2 n2 f2) (h3 : Ia w A3 n3 f3) :
    Calls Tryz.prog 11 #[.agg #[.slice A1 n1 c1, .slice A2 n2 c2, .slice A3 n3 c3]] w fun e w' => KeepPost w e w' := by
  have H1 := Lib.hid h1
  have H2 := Lib.hid h2
  have H3 := Lib.hid h3
  clear h1 h2 h3
  go_enter Tryz.func11, Tryz.ntmps11
  go_upto_block 0 with (go_at_call 28; refine (words18 _).mono ?_; rintro e w' ⟨rfl, rfl⟩)
  have e4 := alloc4 w (.cells #[.slice A1 n1 c1, .slice A2 n2 c2, .slice A3 n3 c3] 46 (0, 0)) (.cells #[.slice none 0 0, .slice none 0 0] 33 (0, 0)) (.cells (wordsL.map Value.string).toArray 9 (0, 0)) (.cells #[.slice none 0 0, .slice none 0 0] 33 (0, 0))
  have HX := Lib.hid e4.1
  have HR := Lib.hid e4.2.1
  have HW := Lib.hid e4.2.2.1
  have HU := Lib.hid e4.2.2.2.1
  have HB := Lib.hid e4.2.2.2.2.1
  have hs5 := e4.2.2.2.2.2
  clear e4
  generalize (((w.alloc (.cells #[.slice A1 n1 c1, .slice A2 n2 c2, .slice A3 n3 c3] 46 (0, 0))).alloc (.cells #[.slice none 0 0, .slice none 0 0] 33 (0, 0))).alloc (.cells (wordsL.map Value.string).toArray 9 (0, 0))).alloc (.cells #[.slice none 0 0, .slice none 0 0] 33 (0, 0)) = w5 at *
  generalize hX : w.heap.size = X at *
  obtain ⟨R, hR⟩ : ∃ R, X + 1 = R := ⟨_, rfl⟩
  obtain ⟨Wd, hWd⟩ : ∃ R, X + 1 + 1 = R := ⟨_, rfl⟩
  obtain ⟨U, hU⟩ : ∃ R, X + 1 + 1 + 1 = R := ⟨_, rfl⟩
  rw [hU, hWd, hR]
  rw [hR] at HR
  rw [hWd] at HW
  rw [hU] at HU
  have HN := Lib.hid (show R = X + 1 ∧ Wd = X + 2 ∧ U = X + 3 ∧ w5.heap.size = X + 4 ∧ w.heap.size = X by omega)
  clear hR hWd hU hs5 hX
  have HS : Hid (∀ w' : World, Kp (fun k => k = U) w5 w' → w'.cell? ⟨X, 0, none⟩ = some (.slice A1 n1 c1) ∧ w'.cell? ⟨X, 1, none⟩ = some (.slice A2 n2 c2) ∧ w'.cell? ⟨X, 2, none⟩ = some (.slice A3 n3 c3) ∧ (∀ i, i < 12 → w'.cell? ⟨Wd, i, none⟩ = some (.string (wordsL.getD i default))) ∧ Kp (fun k => k = U) w5 w') := by
    intro w' hk
    obtain ⟨q1, q2, q3, q4, q5⟩ := HN.out
    obtain ⟨a, b, c⟩ := blk3 ((hk.block X (by omega) (by omega)).trans HX.out)
    have d := (hk.block Wd (by omega) (by omega)).trans HW.out
    refine ⟨a, b, c, fun i hi => ?_, hk⟩
    rw [blk_cell d]
    have hlw : i < wordsL.length := hi
    simp [List.getD, hlw]
  have HI : Hid (∀ w' : World, Kp (fun k => k = U) w5 w' → Ia w' A1 n1 f1 ∧ Ia w' A2 n2 f2 ∧ Ia w' A3 n3 f3) := by
    intro w' hk
    obtain ⟨q1, q2, q3, q4, q5⟩ := HN.out
    have hb : Below w.heap.size w w' := (q5 ▸ HB.out : Below w.heap.size w w5).trans (hk.below (by omega) (fun k hk e => by omega))
    exact ⟨H1.out.call hb, H2.out.call hb, H3.out.call hb⟩
  have m0 : MemS U w5.heap.size w5 (.slice none 0 0) [] w5 := ⟨none, 0, 0, HU.out, World.ownsRow_nil _ _ _ _, Kp.refl _ _, Nat.le_refl _⟩
  have M0 := Lib.hid m0
  clear m0
  go_cut [5] from 8 (fun i wc => ∃ xs : List ByteArray, xs.length ≤ 5 ∧ (∀ s ∈ xs, s ∈ wordsL) ∧ MemS U w5.heap.size w5 (.slice none 0 0) xs wc)
  case first =>
    go_wp2_with fail
    go_loopw [5] (fun i wr => ∃ (k : Nat) (xs : List ByteArray), k ≤ n1 ∧ k ≤ 5 ∧ i = .int .i64 k ∧ xs.length = k ∧ (∀ s ∈ xs, s ∈ wordsL) ∧ MemS U w5.heap.size w5 (.slice none 0 0) xs wr) (fun i _ => 5 - (intOf i).toNat)
    case atStart => exact ⟨0, [], by omega, by omega, rfl, rfl, by simp, M0.out⟩
    case round =>
      obtain ⟨k, xs, hkn, hk5, rfl, hxl, hxw, hmem⟩ := hrel
      have HM := Lib.hid hmem
      have HXW := Lib.hid hxw
      clear hmem hxw
      obtain ⟨Am, nm, cm, m1, m2, m3, m4⟩ := HM.out
      obtain ⟨s0, s1, s2, s3, _⟩ := HS.out _ m3
      have M1 := Lib.hid m1
      have M2 := Lib.hid m2
      have M3 := Lib.hid m3
      clear m1 m2 m3
      by_cases hk : k < n1 ∧ k < 5
      · obtain ⟨hka, hkb⟩ := hk
        have d1 : (k : Int) < (n1 : Int) := by omega
        have d2 : (k : Int) < 5 := by omega
        obtain ⟨b1, o1, rfl, g1⟩ := (HI.out _ M3.out).1.2 k hka
        obtain ⟨rn, hrn, hr12⟩ : ∃ rn : Nat, wi (f1 k) 11 = (rn : Int) ∧ rn < 12 := by
          have := wi_in (f1 k) 11 (by omega)
          exact ⟨(wi (f1 k) 11).toNat, by omega, by omega⟩
        have hri : (rn : Int) < 12 := by omega
        have eb : Hid (xs.length ≤ 1000000000) := by show _ ≤ _; omega
        have hUB : U < w5.heap.size := by have := HN.out; omega
        obtain ⟨t0, t1, t2, t3⟩ := blk2 M1.out
        have gw := s3 rn hr12
        have ta : ∀ o : Obj, (wr.alloc o).cell? ⟨U, 0, none⟩ = some (.slice Am nm cm) := fun o => by
          rw [World.cell?_alloc_lt _ _ _ (World.block_lt_of_cell? _ _ t0)]; exact t0
        clear s3
        go_wp2_with fail
        have HXM := Lib.hid (getD_mem wordsL rn hr12)
        have HRN := Lib.hid hrn
        clear hrn
        generalize hx : wordsL.getD rn default = x at *
        have HX0 := Lib.hid hx.symm
        clear hx
        have hw11 : IntKind.i64.wrap 11 = ((11 : Nat) : Int) := by rw [IntKind.wrap_i64]; rfl
        have kc : ∀ w' : World, Kp (fun k => k = U) w5 w' → w'.cell? ⟨X, 0, none⟩ = some (.slice (some ⟨b1, o1, none⟩) n1 c1) ∧ w'.cell? ⟨b1, o1 + k, none⟩ = some (.int .i64 (f1 k)) := by
          intro w' hk
          obtain ⟨b', o', eo, gg⟩ := (HI.out _ hk).1.2 k hka
          cases eo
          exact ⟨(HS.out _ hk).1, gg⟩
        have wc : ∀ w' : World, Kp (fun k => k = U) w5 w' → w'.cell? ⟨Wd, rn, none⟩ = some (.string x) := fun w' hk => by
          rw [HX0.out]; exact (HS.out _ hk).2.2.2.1 rn hr12
        have KC := Lib.hid kc
        have WC := Lib.hid wc
        clear kc wc
        have hSd : (fun w' => w'.cell? ⟨U, 0, none⟩ = some (.slice Am nm cm) ∧ w'.cell? ⟨X, 0, none⟩ = some (.slice (some ⟨b1, o1, none⟩) n1 c1) ∧ w'.cell? ⟨b1, o1 + k, none⟩ = some (.int .i64 (f1 k)) ∧ w'.cell? ⟨Wd, rn, none⟩ = some (.string x)) wr.drew := ⟨t0, s0, g1, gw⟩
        refine wp_region_sink (S := (fun w' => w'.cell? ⟨U, 0, none⟩ = some (.slice Am nm cm) ∧ w'.cell? ⟨X, 0, none⟩ = some (.slice (some ⟨b1, o1, none⟩) n1 c1) ∧ w'.cell? ⟨b1, o1 + k, none⟩ = some (.int .i64 (f1 k)) ∧ w'.cell? ⟨Wd, rn, none⟩ = some (.string x))) (n := 17) (by kernel_rfl) ?_
        change wpSink _ _ _ _ _ 17 18 _ _ _
        refine sink_take (i := 0) (v := ?_) rfl (by kernel_rfl) (by kernel_rfl) (by kernel_rfl) (by kernel_rfl) (fun _ _ _ h => h) (Or.inl ⟨by rfl, ?_⟩) hSd ?_
        rotate_left
        · intro wz hSw
          (try dsimp only at hSw)
          go_simp
          (try with_reducible rfl)
        try simp only [Act.put]
        refine sink_take (i := 1) (v := ?_) rfl (by kernel_rfl) (by kernel_rfl) (by kernel_rfl) (by kernel_rfl) (fun _ _ _ h => h) (Or.inl ⟨by rfl, ?_⟩) hSd ?_
        rotate_left
        · intro wz hSw
          (try dsimp only at hSw)
          go_simp
          (try with_reducible rfl)
        try simp only [Act.put]
        refine sink_take (i := 2) (v := ?_) rfl (by kernel_rfl) (by kernel_rfl) (by kernel_rfl) (by kernel_rfl) (fun _ _ _ h => h) (Or.inl ⟨by rfl, ?_⟩) hSd ?_
        rotate_left
        · intro wz hSw
          (try dsimp only at hSw)
          go_simp
          (try with_reducible rfl)
        try simp only [Act.put]
        refine sink_take (i := 3) (v := ?_) rfl (by kernel_rfl) (by kernel_rfl) (by kernel_rfl) (by kernel_rfl) (fun _ _ _ h => h) (Or.inl ⟨by rfl, ?_⟩) hSd ?_
        rotate_left
        · intro wz hSw
          (try dsimp only at hSw)
          go_simp
          (try with_reducible rfl)
        try simp only [Act.put]
        refine sink_take (i := 4) (v := ?_) rfl (by kernel_rfl) (by kernel_rfl) (by kernel_rfl) (by kernel_rfl) (fun _ _ _ h => h) (Or.inl ⟨by rfl, ?_⟩) hSd ?_
        rotate_left
        · intro wz hSw
          (try dsimp only at hSw)
          go_simp
          (try with_reducible rfl)
        try simp only [Act.put]
        refine sink_take (i := 5) (v := ?_) rfl (by kernel_rfl) (by kernel_rfl) (by kernel_rfl) (by kernel_rfl) (fun _ _ _ h => h) (Or.inl ⟨by rfl, ?_⟩) hSd ?_
        rotate_left
        · intro wz hSw
          (try dsimp only at hSw)
          go_simp
          (try with_reducible rfl)
        try simp only [Act.put]
        refine sink_take (i := 6) (v := ?_) rfl (by kernel_rfl) (by kernel_rfl) (by kernel_rfl) (by kernel_rfl) (fun _ _ _ h => h) (Or.inl ⟨by rfl, ?_⟩) hSd ?_
        rotate_left
        · intro wz hSw
          (try dsimp only at hSw)
          go_simp
          (try with_reducible rfl)
        try simp only [Act.put]
        refine sink_take (i := 7) (v := ?_) rfl (by kernel_rfl) (by kernel_rfl) (by kernel_rfl) (by kernel_rfl) (fun _ _ _ h => h) (Or.inl ⟨by rfl, ?_⟩) hSd ?_
        rotate_left
        · intro wz hSw
          (try dsimp only at hSw)
          go_simp
          (try with_reducible rfl)
        try simp only [Act.put]
        refine sink_take (i := 8) (v := ?_) rfl (by kernel_rfl) (by kernel_rfl) (by kernel_rfl) (by kernel_rfl) (fun _ _ _ h => h) (Or.inl ⟨by rfl, ?_⟩) hSd ?_
        rotate_left
        · intro wz hSw
          (try dsimp only at hSw)
          go_simp
          (try with_reducible rfl)
        try simp only [Act.put]
        refine sink_take (i := 9) (v := ?_) rfl (by kernel_rfl) (by kernel_rfl) (by kernel_rfl) (by kernel_rfl) (fun _ _ _ h => h) (Or.inl ⟨by rfl, ?_⟩) hSd ?_
        rotate_left
        · intro wz hSw
          (try dsimp only at hSw)
          go_simp
          (try with_reducible rfl)
        try simp only [Act.put]
        refine sink_take (i := 10) (v := ?_) rfl (by kernel_rfl) (by kernel_rfl) (by kernel_rfl) (by kernel_rfl) (fun _ _ _ h => h) (Or.inl ⟨by rfl, ?_⟩) hSd ?_
        rotate_left
        · intro wz hSw
          (try dsimp only at hSw)
          go_simp
          (try with_reducible rfl)
        try simp only [Act.put]
        refine sink_one (i := 11) (by kernel_rfl) ?_
        refine wpOp_step rfl (fun K' hK => ?_)
        have HK := Lib.hid hK
        clear hK
        rw [if_pos (by rfl)]
        go_simp
        refine (within_nat _ 11 rn _ (by omega) HRN.out).mono ?_
        rintro e w' ⟨rfl, rfl⟩
        refine HK.out _ _ ⟨Or.inr hSd, ?_⟩
        clear HK
        try simp only [Act.put]
        refine sink_take (i := 12) (v := ?_) rfl (by kernel_rfl) (by kernel_rfl) (by kernel_rfl) (by kernel_rfl) (fun _ _ _ h => h) (Or.inl ⟨by rfl, ?_⟩) hSd ?_
        rotate_left
        · intro wz hSw
          (try dsimp only at hSw)
          go_simp
          (try with_reducible rfl)
        try simp only [Act.put]
        refine sink_take (i := 13) (v := ?_) rfl (by kernel_rfl) (by kernel_rfl) (by kernel_rfl) (by kernel_rfl) (fun _ _ _ h => h) (Or.inl ⟨by rfl, ?_⟩) hSd ?_
        rotate_left
        · intro wz hSw
          (try dsimp only at hSw)
          go_simp
          (try with_reducible rfl)
        try simp only [Act.put]
        refine sink_one (i := 14) (by kernel_rfl) ?_
        refine wpOp_step rfl (fun K' hK => ?_)
        have HK := Lib.hid hK
        clear hK
        rw [if_pos (by rfl)]
        go_simp
        have ka : Kp (fun k => k = U) w5 ((wr.alloc (.cells #[.string x] 9 (0, 0))).drew) := (M3.out.alloc _).drew
        have hSa : (fun w' => w'.cell? ⟨U, 0, none⟩ = some (.slice Am nm cm) ∧ w'.cell? ⟨X, 0, none⟩ = some (.slice (some ⟨b1, o1, none⟩) n1 c1) ∧ w'.cell? ⟨b1, o1 + k, none⟩ = some (.int .i64 (f1 k)) ∧ w'.cell? ⟨Wd, rn, none⟩ = some (.string x)) ((wr.alloc (.cells #[.string x] 9 (0, 0))).drew) := ⟨ta _, (KC.out _ ka).1, (KC.out _ ka).2, WC.out _ ka⟩
        refine HK.out _ _ ⟨Or.inr hSa, ?_⟩
        clear HK
        try simp only [Act.put]
        refine sink_one (i := 15) (by kernel_rfl) ?_
        refine wpOp_step rfl (fun K' hK => ?_)
        have HK := Lib.hid hK
        clear hK
        rw [if_pos (by rfl)]
        refine wp_appS _ (.tmp 20) (.tmp 33) rfl w5.heap.size ((wr.alloc (.cells #[.string x] 9 (0, 0))).drew) _ xs rfl ⟨(M2.out.alloc _).drew, Below.refl _ _, ?_⟩ eb.out ⟨wr.heap.size, 0, none⟩ 1 1 [x] rfl rfl (by omega) (World.news_of_block (heap_alloc_new _ _)) ?_
        · simp; omega
        intro v8 w8 h8 hg _
        obtain ⟨A8, n8, c8, hv8⟩ := h8.ss.shape
        subst hv8
        obtain ⟨hU8, hm8⟩ := memS_step (w7 := wr.drew) (xs := xs) (ys := [x]) M1.out hUB M2.out.drew M3.out.drew (.cells #[.string x] 9 (0, 0)) h8 hg (Nat.le_refl _)
        obtain ⟨r0, r1, r2, r3⟩ := blk2 hU8
        have K8 : Kp (fun k => k = U) w5 w8 := (M3.out.alloc _).drew.grown hg (fun k hk e => absurd (M2.out.lt _ e).1 (by omega))
        have hS8 : (fun w' => w'.cell? ⟨U, 0, none⟩ = some (.slice Am nm cm) ∧ w'.cell? ⟨X, 0, none⟩ = some (.slice (some ⟨b1, o1, none⟩) n1 c1) ∧ w'.cell? ⟨b1, o1 + k, none⟩ = some (.int .i64 (f1 k)) ∧ w'.cell? ⟨Wd, rn, none⟩ = some (.string x)) w8 := ⟨r0, (KC.out _ K8).1, (KC.out _ K8).2, WC.out _ K8⟩
        have H8 := Lib.hid hm8
        clear hm8 h8 hg hU8
        refine HK.out _ _ ⟨Or.inr hS8, ?_⟩
        clear HK
        try simp only [Act.put]
        refine sink_take (i := 16) (v := ?_) rfl (by kernel_rfl) (by kernel_rfl) (by kernel_rfl) (by kernel_rfl) (fun _ _ _ h => h) (Or.inl ⟨by rfl, ?_⟩) hS8 ?_
        rotate_left
        · intro wz hSw
          (try dsimp only at hSw)
          go_simp
          (try with_reducible rfl)
        try simp only [Act.put]
        refine sink_one (i := 17) (by kernel_rfl) ?_
        refine wpOp_step rfl (fun K' hK => ?_)
        have HK := Lib.hid hK
        clear hK
        rw [if_pos (by rfl)]
        go_simp
        refine HK.out _ _ ⟨Or.inl rfl, ?_⟩
        clear HK
        try simp only [Act.put]
        refine sink_done (by kernel_rfl) ?_
        clear hSd hSa hS8
        go_wp2_with fail
        go_roundw
        case rel => exact ⟨k + 1, xs ++ [x], by omega, by omega, by go_num, by simp; omega, fun s hs => by
          rw [List.mem_append] at hs
          rcases hs with hs | hs
          · exact HXW.out s hs
          · rw [List.mem_singleton] at hs; rw [hs]; exact HXM.out, H8.out⟩
        case measure => simp [intOf]; omega
      · have hxl5 : xs.length ≤ 5 := by omega
        have LX := Lib.hid hxl5
        clear hxl5
        by_cases hk1 : k < n1
        · have d1 : (k : Int) < (n1 : Int) := by omega
          have d2 : ¬ (k : Int) < 5 := by omega
          go_wp2_with fail
          go_meet
          exact ⟨xs, LX.out, HXW.out, HM.out⟩
        · have d1 : ¬ (k : Int) < (n1 : Int) := by omega
          go_wp2_with fail
          go_meet
          exact ⟨xs, LX.out, HXW.out, HM.out⟩
  case rest =>
    obtain ⟨xs, hx5, hxw, hmem⟩ := hcut
    obtain ⟨A9, n9, c9, u1, u2, u3⟩ := hmem.ss
    have N1 := Lib.hid u1
    have N2 := Lib.hid u2
    have N3 := Lib.hid u3
    have LX := Lib.hid hx5
    have LW := Lib.hid hxw
    clear u1 u2 u3 hx5 hxw hmem M0 HU
    have m0 : MemP U wc.heap.size wc (.slice A9 n9 c9) [] wc := ⟨none, 0, 0, N1.out, World.ownsRow_nil _ _ _ _, Kp.refl _ _, Nat.le_refl _⟩
    have M0 := Lib.hid m0
    clear m0
    have hUB : U < wc.heap.size := blk_lt N1.out
    go_wp2_with fail
    go_loopw [6] (fun i wr => ∃ (k : Nat) (ys : List Pr), k ≤ n2 ∧ k ≤ 3 ∧ i = .int .i64 k ∧ ys.length = k ∧ (∀ x ∈ ys, x.1 ∈ wordsL ∧ x.2 ∈ wordsL) ∧ MemP U wc.heap.size wc (.slice A9 n9 c9) ys wr) (fun i _ => 3 - (intOf i).toNat)
    case atStart => exact ⟨0, [], by omega, by omega, rfl, rfl, by simp, M0.out⟩
    case round =>
      obtain ⟨k, ys, hkn, hk5, rfl, hxl, hxw, hmem⟩ := hrel
      have HM := Lib.hid hmem
      have HXW := Lib.hid hxw
      clear hmem hxw
      obtain ⟨Am, nm, cm, m1, m2, m3, m4⟩ := HM.out
      have k5 : Kp (fun k => k = U) w5 wr := N3.out.trans m3 (fun _ _ t => t)
      obtain ⟨s0, s1, s2, s3, _⟩ := HS.out _ k5
      have K5 := Lib.hid k5
      have M1 := Lib.hid m1
      have M2 := Lib.hid m2
      have M3 := Lib.hid m3
      clear m1 m2 m3 k5
      by_cases hk : k < n2 ∧ k < 3
      · obtain ⟨hka, hkb⟩ := hk
        have d1 : (k : Int) < (n2 : Int) := by omega
        have d2 : (k : Int) < 3 := by omega
        obtain ⟨b1, o1, rfl, g1⟩ := (HI.out _ K5.out).2.1.2 k hka
        have i3 := (HI.out _ K5.out).2.2
        have I3 : Hid (Ia wr.drew A3 n3 f3) := i3.call ((Below.refl _ _).drew)
        clear i3
        obtain ⟨rn, hrn, hr12⟩ : ∃ rn : Nat, wi (f2 k) 11 = (rn : Int) ∧ rn < 12 := by
          have := wi_in (f2 k) 11 (by omega)
          exact ⟨(wi (f2 k) 11).toNat, by omega, by omega⟩
        have hri : (rn : Int) < 12 := by omega
        obtain ⟨pv, hpv⟩ : ∃ pv, pv = pickV n3 f3 k := ⟨_, rfl⟩
        obtain ⟨sn, hsn, hs12⟩ : ∃ rn : Nat, wi pv 11 = (rn : Int) ∧ rn < 12 := by
          have := wi_in pv 11 (by omega)
          exact ⟨(wi pv 11).toNat, by omega, by omega⟩
        have hsi : (sn : Int) < 12 := by omega
        have HPV := Lib.hid hpv
        have HRN := Lib.hid hrn
        have HSN := Lib.hid hsn
        clear hpv hrn hsn
        have eb : Hid (ys.length ≤ 1000000000) := by show _ ≤ _; omega
        obtain ⟨t0, t1, t2, t3⟩ := blk2 M1.out
        have gw := s3 rn hr12
        have gz := s3 sn hs12
        have ta : ∀ o : Obj, (wr.alloc o).cell? ⟨U, 1, none⟩ = some (.slice Am nm cm) := fun o => by
          rw [World.cell?_alloc_lt _ _ _ (World.block_lt_of_cell? _ _ t1)]; exact t1
        clear s3
        have HXM := Lib.hid (getD_mem wordsL rn hr12)
        have HXN := Lib.hid (getD_mem wordsL sn hs12)
        go_wp2_with fail
        have kc : ∀ w' : World, Kp (fun k => k = U) w5 w' → w'.cell? ⟨X, 1, none⟩ = some (.slice (some ⟨b1, o1, none⟩) n2 c2) ∧ w'.cell? ⟨b1, o1 + k, none⟩ = some (.int .i64 (f2 k)) ∧ w'.cell? ⟨X, 2, none⟩ = some (.slice A3 n3 c3) ∧ w'.cell? ⟨Wd, rn, none⟩ = some (.string (wordsL.getD rn default)) ∧ w'.cell? ⟨Wd, sn, none⟩ = some (.string (wordsL.getD sn default)) := by
          intro w' hk
          obtain ⟨b', o', eo, gg⟩ := (HI.out _ hk).2.1.2 k hka
          cases eo
          obtain ⟨i0, i1, i2, i3, _⟩ := HS.out _ hk
          exact ⟨i1, gg, i2, i3 rn hr12, i3 sn hs12⟩
        have KC := Lib.hid kc
        clear kc
        generalize wordsL.getD rn default = x at *
        generalize wordsL.getD sn default = y at *
        have hw11 : IntKind.i64.wrap 11 = ((11 : Nat) : Int) := by rw [IntKind.wrap_i64]; rfl
        have hSd : (fun w' => w'.cell? ⟨U, 1, none⟩ = some (.slice Am nm cm) ∧ w'.cell? ⟨X, 1, none⟩ = some (.slice (some ⟨b1, o1, none⟩) n2 c2) ∧ w'.cell? ⟨b1, o1 + k, none⟩ = some (.int .i64 (f2 k)) ∧ w'.cell? ⟨X, 2, none⟩ = some (.slice A3 n3 c3) ∧ w'.cell? ⟨Wd, rn, none⟩ = some (.string x) ∧ w'.cell? ⟨Wd, sn, none⟩ = some (.string y)) wr.drew := ⟨t1, s1, g1, s2, gw, gz⟩
        refine wp_region_sink (S := (fun w' => w'.cell? ⟨U, 1, none⟩ = some (.slice Am nm cm) ∧ w'.cell? ⟨X, 1, none⟩ = some (.slice (some ⟨b1, o1, none⟩) n2 c2) ∧ w'.cell? ⟨b1, o1 + k, none⟩ = some (.int .i64 (f2 k)) ∧ w'.cell? ⟨X, 2, none⟩ = some (.slice A3 n3 c3) ∧ w'.cell? ⟨Wd, rn, none⟩ = some (.string x) ∧ w'.cell? ⟨Wd, sn, none⟩ = some (.string y))) (n := 29) (by kernel_rfl) ?_
        change wpSink _ _ _ _ _ 29 30 _ _ _
        refine sink_take (i := 0) (v := ?_) rfl (by kernel_rfl) (by kernel_rfl) (by kernel_rfl) (by kernel_rfl) (fun _ _ _ h => h) (Or.inl ⟨by rfl, ?_⟩) hSd ?_
        rotate_left
        · intro wz hSw
          (try dsimp only at hSw)
          go_simp
          (try with_reducible rfl)
        try simp only [Act.put]
        refine sink_take (i := 1) (v := ?_) rfl (by kernel_rfl) (by kernel_rfl) (by kernel_rfl) (by kernel_rfl) (fun _ _ _ h => h) (Or.inl ⟨by rfl, ?_⟩) hSd ?_
        rotate_left
        · intro wz hSw
          (try dsimp only at hSw)
          go_simp
          (try with_reducible rfl)
        try simp only [Act.put]
        refine sink_take (i := 2) (v := ?_) rfl (by kernel_rfl) (by kernel_rfl) (by kernel_rfl) (by kernel_rfl) (fun _ _ _ h => h) (Or.inl ⟨by rfl, ?_⟩) hSd ?_
        rotate_left
        · intro wz hSw
          (try dsimp only at hSw)
          go_simp
          (try with_reducible rfl)
        try simp only [Act.put]
        refine sink_take (i := 3) (v := ?_) rfl (by kernel_rfl) (by kernel_rfl) (by kernel_rfl) (by kernel_rfl) (fun _ _ _ h => h) (Or.inl ⟨by rfl, ?_⟩) hSd ?_
        rotate_left
        · intro wz hSw
          (try dsimp only at hSw)
          go_simp
          (try with_reducible rfl)
        try simp only [Act.put]
        refine sink_take (i := 4) (v := ?_) rfl (by kernel_rfl) (by kernel_rfl) (by kernel_rfl) (by kernel_rfl) (fun _ _ _ h => h) (Or.inl ⟨by rfl, ?_⟩) hSd ?_
        rotate_left
        · intro wz hSw
          (try dsimp only at hSw)
          go_simp
          (try with_reducible rfl)
        try simp only [Act.put]
        refine sink_take (i := 5) (v := ?_) rfl (by kernel_rfl) (by kernel_rfl) (by kernel_rfl) (by kernel_rfl) (fun _ _ _ h => h) (Or.inl ⟨by rfl, ?_⟩) hSd ?_
        rotate_left
        · intro wz hSw
          (try dsimp only at hSw)
          go_simp
          (try with_reducible rfl)
        try simp only [Act.put]
        refine sink_take (i := 6) (v := ?_) rfl (by kernel_rfl) (by kernel_rfl) (by kernel_rfl) (by kernel_rfl) (fun _ _ _ h => h) (Or.inl ⟨by rfl, ?_⟩) hSd ?_
        rotate_left
        · intro wz hSw
          (try dsimp only at hSw)
          go_simp
          (try with_reducible rfl)
        try simp only [Act.put]
        refine sink_take (i := 7) (v := ?_) rfl (by kernel_rfl) (by kernel_rfl) (by kernel_rfl) (by kernel_rfl) (fun _ _ _ h => h) (Or.inl ⟨by rfl, ?_⟩) hSd ?_
        rotate_left
        · intro wz hSw
          (try dsimp only at hSw)
          go_simp
          (try with_reducible rfl)
        try simp only [Act.put]
        refine sink_take (i := 8) (v := ?_) rfl (by kernel_rfl) (by kernel_rfl) (by kernel_rfl) (by kernel_rfl) (fun _ _ _ h => h) (Or.inl ⟨by rfl, ?_⟩) hSd ?_
        rotate_left
        · intro wz hSw
          (try dsimp only at hSw)
          go_simp
          (try with_reducible rfl)
        try simp only [Act.put]
        refine sink_take (i := 9) (v := ?_) rfl (by kernel_rfl) (by kernel_rfl) (by kernel_rfl) (by kernel_rfl) (fun _ _ _ h => h) (Or.inl ⟨by rfl, ?_⟩) hSd ?_
        rotate_left
        · intro wz hSw
          (try dsimp only at hSw)
          go_simp
          (try with_reducible rfl)
        try simp only [Act.put]
        refine sink_take (i := 10) (v := ?_) rfl (by kernel_rfl) (by kernel_rfl) (by kernel_rfl) (by kernel_rfl) (fun _ _ _ h => h) (Or.inl ⟨by rfl, ?_⟩) hSd ?_
        rotate_left
        · intro wz hSw
          (try dsimp only at hSw)
          go_simp
          (try with_reducible rfl)
        try simp only [Act.put]
        refine sink_take (i := 14) (v := ?_) rfl (by kernel_rfl) (by kernel_rfl) (by kernel_rfl) (by kernel_rfl) (fun _ _ _ h => h) (Or.inl ⟨by rfl, ?_⟩) hSd ?_
        rotate_left
        · intro wz hSw
          (try dsimp only at hSw)
          go_simp
          (try with_reducible rfl)
        try simp only [Act.put]
        refine sink_take (i := 15) (v := ?_) rfl (by kernel_rfl) (by kernel_rfl) (by kernel_rfl) (by kernel_rfl) (fun _ _ _ h => h) (Or.inl ⟨by rfl, ?_⟩) hSd ?_
        rotate_left
        · intro wz hSw
          (try dsimp only at hSw)
          go_simp
          (try with_reducible rfl)
        try simp only [Act.put]
        refine sink_take (i := 16) (v := ?_) rfl (by kernel_rfl) (by kernel_rfl) (by kernel_rfl) (by kernel_rfl) (fun _ _ _ h => h) (Or.inl ⟨by rfl, ?_⟩) hSd ?_
        rotate_left
        · intro wz hSw
          (try dsimp only at hSw)
          go_simp
          (try with_reducible rfl)
        try simp only [Act.put]
        refine sink_take (i := 17) (v := ?_) rfl (by kernel_rfl) (by kernel_rfl) (by kernel_rfl) (by kernel_rfl) (fun _ _ _ h => h) (Or.inl ⟨by rfl, ?_⟩) hSd ?_
        rotate_left
        · intro wz hSw
          (try dsimp only at hSw)
          go_simp
          (try with_reducible rfl)
        try simp only [Act.put]
        refine sink_take (i := 19) (v := ?_) rfl (by kernel_rfl) (by kernel_rfl) (by kernel_rfl) (by kernel_rfl) (fun _ _ _ h => h) (Or.inl ⟨by rfl, ?_⟩) hSd ?_
        rotate_left
        · intro wz hSw
          (try dsimp only at hSw)
          go_simp
          (try with_reducible rfl)
        try simp only [Act.put]
        refine sink_take (i := 20) (v := ?_) rfl (by kernel_rfl) (by kernel_rfl) (by kernel_rfl) (by kernel_rfl) (fun _ _ _ h => h) (Or.inl ⟨by rfl, ?_⟩) hSd ?_
        rotate_left
        · intro wz hSw
          (try dsimp only at hSw)
          go_simp
          (try with_reducible rfl)
        try simp only [Act.put]
        refine sink_take (i := 21) (v := ?_) rfl (by kernel_rfl) (by kernel_rfl) (by kernel_rfl) (by kernel_rfl) (fun _ _ _ h => h) (Or.inl ⟨by rfl, ?_⟩) hSd ?_
        rotate_left
        · intro wz hSw
          (try dsimp only at hSw)
          go_simp
          (try with_reducible rfl)
        try simp only [Act.put]
        refine sink_one (i := 11) (by kernel_rfl) ?_
        refine wpOp_step rfl (fun K' hK => ?_)
        have HK := Lib.hid hK
        clear hK
        rw [if_pos (by rfl)]
        go_simp
        refine (within_nat _ 11 rn _ (by omega) HRN.out).mono ?_
        rintro e w' ⟨rfl, rfl⟩
        refine HK.out _ _ ⟨Or.inr hSd, ?_⟩
        clear HK
        try simp only [Act.put]
        refine sink_take (i := 12) (v := ?_) rfl (by kernel_rfl) (by kernel_rfl) (by kernel_rfl) (by kernel_rfl) (fun _ _ _ h => h) (Or.inl ⟨by rfl, ?_⟩) hSd ?_
        rotate_left
        · intro wz hSw
          (try dsimp only at hSw)
          go_simp
          (try with_reducible rfl)
        try simp only [Act.put]
        refine sink_take (i := 13) (v := ?_) rfl (by kernel_rfl) (by kernel_rfl) (by kernel_rfl) (by kernel_rfl) (fun _ _ _ h => h) (Or.inl ⟨by rfl, ?_⟩) hSd ?_
        rotate_left
        · intro wz hSw
          (try dsimp only at hSw)
          go_simp
          (try with_reducible rfl)
        try simp only [Act.put]
        refine sink_one (i := 18) (by kernel_rfl) ?_
        refine wpOp_step rfl (fun K' hK => ?_)
        have HK := Lib.hid hK
        clear hK
        rw [if_pos (by rfl)]
        go_simp
        refine (pickV30 _ _ _ _ _ pv _ I3.out HPV.out).mono ?_
        rintro e w' ⟨rfl, hw⟩
        subst hw
        refine HK.out _ _ ⟨Or.inr hSd, ?_⟩
        clear HK
        try simp only [Act.put]
        refine sink_one (i := 22) (by kernel_rfl) ?_
        refine wpOp_step rfl (fun K' hK => ?_)
        have HK := Lib.hid hK
        clear hK
        rw [if_pos (by rfl)]
        go_simp
        refine (within_nat _ 11 sn _ (by omega) HSN.out).mono ?_
        rintro e w' ⟨rfl, hw⟩
        subst hw
        refine HK.out _ _ ⟨Or.inr hSd, ?_⟩
        clear HK
        try simp only [Act.put]
        refine sink_take (i := 23) (v := ?_) rfl (by kernel_rfl) (by kernel_rfl) (by kernel_rfl) (by kernel_rfl) (fun _ _ _ h => h) (Or.inl ⟨by rfl, ?_⟩) hSd ?_
        rotate_left
        · intro wz hSw
          (try dsimp only at hSw)
          go_simp
          (try with_reducible rfl)
        try simp only [Act.put]
        refine sink_take (i := 24) (v := ?_) rfl (by kernel_rfl) (by kernel_rfl) (by kernel_rfl) (by kernel_rfl) (fun _ _ _ h => h) (Or.inl ⟨by rfl, ?_⟩) hSd ?_
        rotate_left
        · intro wz hSw
          (try dsimp only at hSw)
          go_simp
          (try with_reducible rfl)
        try simp only [Act.put]
        refine sink_take (i := 25) (v := ?_) rfl (by kernel_rfl) (by kernel_rfl) (by kernel_rfl) (by kernel_rfl) (fun _ _ _ h => h) (Or.inl ⟨by rfl, ?_⟩) hSd ?_
        rotate_left
        · intro wz hSw
          (try dsimp only at hSw)
          go_simp
          (try with_reducible rfl)
        try simp only [Act.put]
        refine sink_one (i := 26) (by kernel_rfl) ?_
        refine wpOp_step rfl (fun K' hK => ?_)
        have HK := Lib.hid hK
        clear hK
        rw [if_pos (by rfl)]
        go_simp
        have ka : Kp (fun k => k = U) w5 ((wr.alloc (.cells #[.string x, .string y] 61 (0, 0))).drew) := (K5.out.alloc _).drew
        have hSa : (fun w' => w'.cell? ⟨U, 1, none⟩ = some (.slice Am nm cm) ∧ w'.cell? ⟨X, 1, none⟩ = some (.slice (some ⟨b1, o1, none⟩) n2 c2) ∧ w'.cell? ⟨b1, o1 + k, none⟩ = some (.int .i64 (f2 k)) ∧ w'.cell? ⟨X, 2, none⟩ = some (.slice A3 n3 c3) ∧ w'.cell? ⟨Wd, rn, none⟩ = some (.string x) ∧ w'.cell? ⟨Wd, sn, none⟩ = some (.string y)) ((wr.alloc (.cells #[.string x, .string y] 61 (0, 0))).drew) := ⟨ta _, KC.out _ ka⟩
        refine HK.out _ _ ⟨Or.inr hSa, ?_⟩
        clear HK
        try simp only [Act.put]
        refine sink_one (i := 27) (by kernel_rfl) ?_
        refine wpOp_step rfl (fun K' hK => ?_)
        have HK := Lib.hid hK
        clear hK
        rw [if_pos (by rfl)]
        refine wp_appP _ (.tmp 48) (.tmp 73) rfl wc.heap.size ((wr.alloc (.cells #[.string x, .string y] 61 (0, 0))).drew) _ ys rfl ⟨(M2.out.alloc _).drew, Below.refl _ _, ?_⟩ eb.out ⟨wr.heap.size, 0, none⟩ 1 1 [(x, y)] rfl rfl (by omega) (World.news_of_block (heap_alloc_new _ _)) ?_
        · simp; omega
        intro v8 w8 h8 hg _
        obtain ⟨A8, n8, c8, hv8⟩ := h8.ps.shape
        subst hv8
        obtain ⟨hU8, hm8⟩ := memP_step (w7 := wr.drew) (xs := ys) (ys := [(x, y)]) M1.out hUB M2.out.drew M3.out.drew (.cells #[.string x, .string y] 61 (0, 0)) h8 hg (Nat.le_refl _)
        obtain ⟨r0, r1, r2, r3⟩ := blk2 hU8
        have K8' : Kp (fun k => k = U) wc w8 := (M3.out.alloc _).drew.grown hg (fun k hk e => absurd (M2.out.lt _ e).1 (by omega))
        have K8 : Kp (fun k => k = U) w5 w8 := N3.out.trans K8' (fun _ _ t => t)
        have hS8 : (fun w' => w'.cell? ⟨U, 1, none⟩ = some (.slice Am nm cm) ∧ w'.cell? ⟨X, 1, none⟩ = some (.slice (some ⟨b1, o1, none⟩) n2 c2) ∧ w'.cell? ⟨b1, o1 + k, none⟩ = some (.int .i64 (f2 k)) ∧ w'.cell? ⟨X, 2, none⟩ = some (.slice A3 n3 c3) ∧ w'.cell? ⟨Wd, rn, none⟩ = some (.string x) ∧ w'.cell? ⟨Wd, sn, none⟩ = some (.string y)) w8 := ⟨r1, KC.out _ K8⟩
        have H8 := Lib.hid hm8
        clear hm8 h8 hg hU8
        refine HK.out _ _ ⟨Or.inr hS8, ?_⟩
        clear HK
        try simp only [Act.put]
        refine sink_take (i := 28) (v := ?_) rfl (by kernel_rfl) (by kernel_rfl) (by kernel_rfl) (by kernel_rfl) (fun _ _ _ h => h) (Or.inl ⟨by rfl, ?_⟩) hS8 ?_
        rotate_left
        · intro wz hSw
          (try dsimp only at hSw)
          go_simp
          (try with_reducible rfl)
        try simp only [Act.put]
        refine sink_one (i := 29) (by kernel_rfl) ?_
        refine wpOp_step rfl (fun K' hK => ?_)
        have HK := Lib.hid hK
        clear hK
        rw [if_pos (by rfl)]
        go_simp
        refine HK.out _ _ ⟨Or.inl rfl, ?_⟩
        clear HK
        try simp only [Act.put]
        refine sink_done (by kernel_rfl) ?_
        clear hSd hSa hS8
        go_wp2_with fail
        go_roundw
        case rel => exact ⟨k + 1, ys ++ [(x, y)], by omega, by omega, by go_num, by simp; omega, fun s hs => by
          rw [List.mem_append] at hs
          rcases hs with hs | hs
          · exact HXW.out s hs
          · rw [List.mem_singleton] at hs; rw [hs]; exact ⟨HXM.out, HXN.out⟩, H8.out⟩
        case measure => simp [intOf]; omega
      · obtain ⟨A7, n7, c7, u1, u2, u3⟩ := HM.out.ps
        obtain ⟨q1, q2, q3, q4, q5⟩ := HN.out
        have P1 := Lib.hid u1
        have P2 := Lib.hid u2
        have P3 := Lib.hid (N2.out.kp N1.out u3)
        have P4 := Lib.hid ((K5.out.block R (by omega) (by omega)).trans HR.out)
        have P5 : Hid (Below w.heap.size w wr) := by
          have hb : Below w.heap.size w w5 := by rw [q5]; exact HB.out
          exact hb.trans (K5.out.below (by omega) (fun k hk e => by omega))
        have P6 := Lib.hid (show w.heap.size ≤ R by omega)
        have P7 := Lib.hid (show ys.length ≤ 3 by omega)
        obtain ⟨z0, z1, z2, z3⟩ := blk2 P4.out
        obtain ⟨y0, y1, y2, y3⟩ := blk2 P1.out
        clear u1 u2 u3 q1 q2 q3 q4 q5
        by_cases hk1 : k < n2
        · have d1 : (k : Int) < (n2 : Int) := by omega
          have d2 : ¬ (k : Int) < 3 := by omega
          go_wp2
          exact url_end rfl P4.out P3.out P2.out ⟨LX.out, P7.out, LW.out, HXW.out⟩ P5.out P6.out
        · have d1 : ¬ (k : Int) < (n2 : Int) := by omega
          go_wp2
          exact url_end rfl P4.out P3.out P2.out ⟨LX.out, P7.out, LW.out, HXW.out⟩ P5.out P6.out
end Go.Proofs.YthigandmemifoaaGreatDoor
