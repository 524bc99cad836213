/-
  The contracts of package past's Go, New, Copy, Entries.
-/
import Derived.Test.YtbkhlmnonjkelaaMth
import Derived.Laws.AppendOwnNone
namespace Go.Proofs.Ytbkhlmnonjkelaa
open Go.RowKit Go.PlainAid
set_option maxRecDepth 100000

theorem below_drewN (w : World) (q : Nat) : Below w.heap.size w (w.drewN q) := ⟨rfl, rfl, rfl, Nat.le_refl _, fun _ _ => rfl⟩

section
variable {b : Nat} {g : Nat → En} {last at_ : Nat}

theorem can20b (n : Int) (w : World) (h : Pc w b g last at_) (hl : last ≤ 11) (ha : at_ ≤ last) :
    Calls Try.prog 20 #[.pointer (some ⟨b, 0, none⟩), .int .i64 n] w fun e w' => e = .returned (.bool (canB last at_ n)) ∧ Below w.heap.size w w' :=
  (can20 n w h hl ha).mono fun _ _ ⟨he, q, hq⟩ => ⟨he, hq ▸ below_drewN w q⟩

/-- Go, where there is no such entry -/
def GoNo (w : World) (e : Ending) (w' : World) : Prop := e = .returned (.tuple #[.agg #[.string ⟨#[]⟩, .int .u64 0], .int .i64 5]) ∧ Below w.heap.size w w'
/-- Go, where there is one -/
def GoYes (b : Nat) (g : Nat → En) (last at2 : Nat) (w : World) (e : Ending) (w' : World) : Prop := e = .returned (.tuple #[.agg #[.string (g at2).1, .int .u64 (g at2).2], .int .i64 0]) ∧ Upd b g last at2 w w'

theorem go_end {w4 : World} {T : Nat} {tmps : Array Value} {s : ByteArray} {x er : Int} {Q : Ending → World → Prop} (ht : tmps.getD 4 undef = .pointer (some ⟨T, 0, none⟩)) (h5 : tmps.getD 5 undef = .int .i64 er) (hT : w4.heap[T]? = some (.cells #[.string s, .int .u64 x] 28 (0, 0))) (hq : Q (.returned (.tuple #[.agg #[.string s, .int .u64 x], .int .i64 er])) w4) :
    bodyPost Try.prog Try.f10 Q .ret { tmps := tmps, defers := [] } w4 := by
  have k0 := blk_cell hT 0
  have k1 := blk_cell hT 1
  simp at k0 k1
  refine bodyPost_ret (v := .tuple #[.agg #[.string s, .int .u64 x], .int .i64 er]) ?_ rfl hq
  rw [results_cell_tmp rfl, ht, h5]
  go_simp

set_option maxHeartbeats 1600000 in
theorem go10_no (n : Int) (w : World) (h : Pc w b g last at_) (hl : last ≤ 11) (ha : at_ ≤ last) (hn : canB last at_ n = false) :
    Calls Try.prog 10 #[.pointer (some ⟨b, 0, none⟩), .int .i64 n] w (GoNo w) := by
  have h1 := h.alloc (.cells #[.string ⟨#[]⟩, .int .u64 0] 28 (0, 0))
  have hT : (w.alloc (.cells #[.string ⟨#[]⟩, .int .u64 0] 28 (0, 0))).heap[w.heap.size]? = _ := blk_new w _
  have hB : Below w.heap.size w (w.alloc (.cells #[.string ⟨#[]⟩, .int .u64 0] 28 (0, 0))) := (Below.refl _ w).alloc (Nat.le_refl _) _
  have N := Lib.hid hn
  clear hn
  go_enter Try.func10, Try.ntmps10
  go_wp2_with fail
  generalize hw : w.alloc (.cells #[.string ⟨#[]⟩, .int .u64 0] 28 (0, 0)) = w1 at *
  refine (can20b n w1 h1 hl ha).mono ?_
  rintro e w2 ⟨rfl, hb⟩
  rw [N.out]
  have hT2 := blk_call hT hb
  have hB2 := hB.trans (hb.mono hB.size)
  clear hT hB hb
  have t0 := blk_cell hT2 0
  have t1 := blk_cell hT2 1
  have f0 := blk_frozen hT2 0
  have f1 := blk_frozen hT2 1
  simp at t0 t1
  obtain ⟨hT3, hK⟩ := ent2 w2 w.heap.size ⟨#[]⟩ 0 hT2 rfl
  go_wp2_with fail
  refine go_end rfl rfl hT3 ⟨rfl, hB2.trans (hK.below hB2.size (fun k hk e => by omega))⟩

set_option maxHeartbeats 1600000 in
theorem go10_yes (n : Int) (at2 : Nat) (w : World) (h : Pc w b g last at_) (hl : last ≤ 11) (ha : at_ ≤ last) (hn : canB last at_ n = true) (h2 : (at_ : Int) + n = at2) :
    Calls Try.prog 10 #[.pointer (some ⟨b, 0, none⟩), .int .i64 n] w (GoYes b g last at2 w) := by
  have h1 := h.alloc (.cells #[.string ⟨#[]⟩, .int .u64 0] 28 (0, 0))
  have hT : (w.alloc (.cells #[.string ⟨#[]⟩, .int .u64 0] 28 (0, 0))).heap[w.heap.size]? = _ := blk_new w _
  have hB : Below w.heap.size w (w.alloc (.cells #[.string ⟨#[]⟩, .int .u64 0] 28 (0, 0))) := (Below.refl _ w).alloc (Nat.le_refl _) _
  have hlt := h.lt
  have hbd : at2 ≤ 11 := by
    simp [canB] at hn
    omega
  have N := Lib.hid hn
  have H2 := Lib.hid h2
  clear hn h2
  go_enter Try.func10, Try.ntmps10
  go_wp2_with fail
  generalize hw : w.alloc (.cells #[.string ⟨#[]⟩, .int .u64 0] 28 (0, 0)) = w1 at *
  refine (can20b n w1 h1 hl ha).mono ?_
  rintro e w2 ⟨rfl, hb⟩
  rw [N.out]
  have hT2 := blk_call hT hb
  have hB2 := hB.trans (hb.mono hB.size)
  have h3 := h1.call hb
  clear hT hB hb h1
  have c25 := h3.c25
  have f25 := h3.fro 25
  have e2 : IntKind.i64.wrap ((at_ : Int) + n) = at2 := by
    rw [H2.out]
    exact IntWalk.i64_in _ (by omega)
  have h4 := h3.setAt at2
  have hTb : b ≠ w.heap.size := by omega
  have hT3 := blk_setCell_other hT2 (p := ⟨b, 25, none⟩) (Ne.symm hTb) (.int .i64 at2)
  have hK3 := ((Kp.of_below hB2 (fun i => i = b)).setCell (p := ⟨b, 25, none⟩) (fun _ => rfl) (.int .i64 at2))
  go_wp2_with fail
  generalize w2.setCell ⟨b, 25, none⟩ (.int .i64 at2) = w3 at *
  clear h3 hT2 hB2 c25 f25 e2
  refine (now19 w3 h4 hbd).mono ?_
  rintro e w4 ⟨rfl, hb4⟩
  have hT4 := blk_call hT3 hb4
  have h5 := h4.call hb4
  have hK4 := hK3.trans (Kp.of_below hb4 (fun i => i = b)) (fun i hi e => e)
  clear hT3 h4 hK3 hb4
  have t0 := blk_cell hT4 0
  have t1 := blk_cell hT4 1
  have f0 := blk_frozen hT4 0
  have f1 := blk_frozen hT4 1
  simp at t0 t1
  obtain ⟨hT5, hK⟩ := ent2 w4 w.heap.size (g at2).1 (g at2).2 hT4 rfl
  have h6 := h5.of_block (hK.block b h5.lt hTb)
  have hK5 := hK4.trans hK (T := fun i => i = w.heap.size) (fun i hi e => by omega)
  go_wp2_with fail
  exact go_end rfl rfl hT5 ⟨rfl, h6, hK5⟩

/-- New's entries -/
def newE (s : ByteArray) : Nat → En := putE (fun _ => (⟨#[]⟩, 0)) 0 (s, 0)
/-- a past that the call made -/
def NewP (w : World) (g : Nat → En) (last at_ : Nat) (e : Ending) (w' : World) : Prop := ∃ b, e = .returned (.pointer (some ⟨b, 0, none⟩)) ∧ w.heap.size ≤ b ∧ Pc w' b g last at_ ∧ Below w.heap.size w w'

def zeroP : Obj := .cells #[.string ⟨#[]⟩, .int .u64 0, .string ⟨#[]⟩, .int .u64 0, .string ⟨#[]⟩, .int .u64 0, .string ⟨#[]⟩, .int .u64 0, .string ⟨#[]⟩, .int .u64 0, .string ⟨#[]⟩, .int .u64 0, .string ⟨#[]⟩, .int .u64 0, .string ⟨#[]⟩, .int .u64 0, .string ⟨#[]⟩, .int .u64 0, .string ⟨#[]⟩, .int .u64 0, .string ⟨#[]⟩, .int .u64 0, .string ⟨#[]⟩, .int .u64 0, .int .i64 0, .int .i64 0] 56 (0, 0)
theorem pc_zero {w : World} {b : Nat} (h : w.heap[b]? = some zeroP) : Pc w b (fun _ => (⟨#[]⟩, 0)) 0 0 := by
  refine ⟨_, h, rfl, fun i hi => ?_, rfl, rfl⟩
  rcases (show i = 0 ∨ i = 1 ∨ i = 2 ∨ i = 3 ∨ i = 4 ∨ i = 5 ∨ i = 6 ∨ i = 7 ∨ i = 8 ∨ i = 9 ∨ i = 10 ∨ i = 11 by omega) with rfl | rfl | rfl | rfl | rfl | rfl | rfl | rfl | rfl | rfl | rfl | rfl <;> exact ⟨rfl, rfl⟩
theorem pc_full {w : World} {b : Nat} {g : Nat → En} {last at_ : Nat} (h : w.heap[b]? = some (.cells #[.string (g 0).1, .int .u64 (g 0).2, .string (g 1).1, .int .u64 (g 1).2, .string (g 2).1, .int .u64 (g 2).2, .string (g 3).1, .int .u64 (g 3).2, .string (g 4).1, .int .u64 (g 4).2, .string (g 5).1, .int .u64 (g 5).2, .string (g 6).1, .int .u64 (g 6).2, .string (g 7).1, .int .u64 (g 7).2, .string (g 8).1, .int .u64 (g 8).2, .string (g 9).1, .int .u64 (g 9).2, .string (g 10).1, .int .u64 (g 10).2, .string (g 11).1, .int .u64 (g 11).2, .int .i64 last, .int .i64 at_] 56 (0, 0))) : Pc w b g last at_ := by
  refine ⟨_, h, rfl, fun i hi => ?_, rfl, rfl⟩
  rcases (show i = 0 ∨ i = 1 ∨ i = 2 ∨ i = 3 ∨ i = 4 ∨ i = 5 ∨ i = 6 ∨ i = 7 ∨ i = 8 ∨ i = 9 ∨ i = 10 ∨ i = 11 by omega) with rfl | rfl | rfl | rfl | rfl | rfl | rfl | rfl | rfl | rfl | rfl | rfl <;> exact ⟨rfl, rfl⟩

set_option maxHeartbeats 1600000 in
theorem new8 (s : ByteArray) (w : World) :
    Calls Try.prog 8 #[.string s] w (NewP w (newE s) 0 0) := by
  have hP := pc_zero (blk_new w zeroP)
  have hB : Below w.heap.size w (w.alloc zeroP) := (Below.refl _ w).alloc (Nat.le_refl _) _
  unfold zeroP at hP hB
  go_enter Try.func8, Try.ntmps8
  go_wp2_with fail
  generalize w.alloc _ = w1 at *
  refine (replace14 s w1 hP (by omega)).mono ?_
  rintro e w2 ⟨rfl, hP2, hK⟩
  go_wp2
  go_ret
  exact ⟨_, rfl, Nat.le_refl _, hP2, hB.trans (hK.below hB.size (fun k hk e => by omega))⟩

theorem wpList_load56 {ops : Array Oper} {rest : List Oper} {o : Oper} {a : Act} {Q : Exit → Act → World → Prop} (w : World) (hgd : o.guard = none) (p : Operand) (ho : o.op = .load 56 p)
    (b : Nat) (cs : Array Value) (hp : a.eval p = .pointer (some ⟨b, 0, none⟩)) (hb : w.heap[b]? = some (.cells cs 56 (0, 0))) (hz : cs.size = 26)
    (h : wpList Try.prog ops Q rest (a.put o.dst (.agg cs)) w) : wpList Try.prog ops Q (o :: rest) a w := by
  have hr := run_loadVar_row (P := Try.prog) w b 56 56 cs (0, 0) _ hb Try.underlying56 rfl (by rw [hz]; kernel_rfl)
  refine wpList_plain hgd fun _ hK => ?_
  unfold Oper.wp execOp
  simp only [ho]
  simp [hp, Instr.loadAt, Instr.sureAddr, hr, Oper.upon]
  exact hK _ _ h
theorem wpList_store56 {ops : Array Oper} {rest : List Oper} {o : Oper} {a : Act} {Q : Exit → Act → World → Prop} (w : World) (hgd : o.guard = none) (p x : Operand) (ho : o.op = .store 56 p x)
    (b : Nat) (cs0 cs : Array Value) (hp : a.eval p = .pointer (some ⟨b, 0, none⟩)) (hx : a.eval x = .agg cs) (hb : w.heap[b]? = some (.cells cs0 56 (0, 0))) (hz0 : cs0.size = 26) (hz : cs.size = 26) (h1 : ∀ v ∈ cs.toList, v.oneCell' = true)
    (h : ∀ w', w'.heap[b]? = some (.cells cs 56 (0, 0)) → Kp (fun i => i = b) w w' → wpList Try.prog ops Q rest (a.put o.dst undef) w') : wpList Try.prog ops Q (o :: rest) a w := by
  have hst := run_storeVar_row (P := Try.prog) w b 56 56 cs0 cs hb (by rw [hz]; kernel_rfl) (by omega) (Array.all_eq_true_iff_forall_mem.2 (fun v hv => h1 v (by simpa using hv)))
  refine wpList_plain hgd fun _ hK => ?_
  unfold Oper.wp execOp
  simp only [ho]
  simp [hp, hx, Instr.storeAt, Instr.sureAddr, hst, Oper.upon]
  exact hK _ _ (h _ (setRow_heap w b cs0 cs 56 (0, 0) hb) ⟨rfl, rfl, rfl, by simp, fun i _ hi => setRow_other w b i _ hi⟩)

set_option maxHeartbeats 1600000 in
theorem copy17 (w : World) (h : Pc w b g last at_) :
    Calls Try.prog 17 #[.pointer (some ⟨b, 0, none⟩)] w (NewP w g last at_) := by
  have hlt := h.lt
  have h0 := h.ex
  obtain ⟨cs, h1, h2, h3, h4, h5⟩ := h0
  have hone : ∀ v ∈ cs.toList, v.oneCell' = true := by
    intro v hv
    rw [List.mem_iff_getElem?] at hv
    obtain ⟨i, hi⟩ := hv
    have hi' : cs[i]? = some v := by simpa using hi
    have hl : i < 26 := by
      have := (Array.getElem?_eq_some_iff.1 hi').1
      omega
    by_cases e24 : i = 24
    · subst e24; rw [h4] at hi'; cases hi'; rfl
    · by_cases e25 : i = 25
      · subst e25; rw [h5] at hi'; cases hi'; rfl
      · rcases Nat.mod_two_eq_zero_or_one i with hm | hm
        · have := (h3 (i / 2) (by omega)).1
          rw [show i / 2 * 2 = i by omega, hi'] at this
          cases this
          rfl
        · have := (h3 (i / 2) (by omega)).2
          rw [show i / 2 * 2 + 1 = i by omega, hi'] at this
          cases this
          rfl
  have FIN := Lib.hid (fun (w' : World) (hh : w'.heap[w.heap.size]? = some (.cells cs 56 (0, 0))) => (⟨_, hh, h2, h3, h4, h5⟩ : Pc w' w.heap.size g last at_))
  have ONE := Lib.hid hone
  clear h h3 h4 h5 hone
  go_enter Try.func17, Try.ntmps17
  go_wp2_with (first | (refine wpList_load56 w rfl _ rfl b cs rfl h1 h2 ?_) | (refine wpList_store56 _ rfl _ _ rfl w.heap.size _ cs rfl rfl (blk_new w _) rfl h2 ONE.out ?_; intro w3 hw3 hk3; have FF := FIN.out w3 hw3; have BB := (((Below.refl _ w).alloc (Nat.le_refl _) _).trans (hk3.below (by simp) (fun k hk e => by omega))); clear hw3 hk3))
  go_ret
  exact ⟨_, rfl, Nat.le_refl _, FF, BB⟩

/-- the first n entries -/
def lis (g : Nat → En) (n : Nat) : List En := (List.range n).map g
theorem lis_len (g : Nat → En) (n : Nat) : (lis g n).length = n := by simp [lis]
theorem lis_get (g : Nat → En) (n i : Nat) (h : i < n) : (lis g n).getD i default = g i := by simp [lis, List.getD, h]

theorem Pc.es {w : World} (h : Pc w b g last at_) (n c : Nat) (hn : n ≤ 12) (hc : n ≤ c) : Es w (.slice (some ⟨b, 0, none⟩) n c) (lis g n) := by
  refine ⟨some ⟨b, 0, none⟩, c, by rw [lis_len], by rw [lis_len]; exact hc, (fun e => by cases e), fun i hi => ⟨b, 0, rfl, ?_⟩⟩
  rw [lis_len] at hi
  rw [lis_get g n i hi, Nat.zero_add]
  exact ⟨h.txt i (by omega), h.scr i (by omega)⟩

/-- append(v, x...), x a slice that is read -/
theorem wpList_appR {ops : Array Oper} {rest : List Oper} {o : Oper} {a : Act} {Q : Exit → Act → World → Prop} (w : World) (hgd : o.guard = none) (s x : Operand)
    (ho : o.op = .call { callee := .builtin .append, args := #[s, x], argTypes := #[32, 32] })
    (B : Nat) (w0 : World) (v : Value) (xs : List En) (hs : a.eval s = v) (hown : OwnE B w0 v xs w) (hn : xs.length ≤ 1000000000)
    (ad : Addr) (m c : Nat) (ys : List En) (hx : a.eval x = .slice (some ad) m c) (hr : Es w (.slice (some ad) m c) ys) (hm1 : m ≤ 100000)
    (h : ∀ v' w', OwnE B w0 v' (xs ++ ys) w' → w.grownBy w' v.ownBlock → v'.ownBlock = v.ownBlock ∨ v'.ownBlock = some w.heap.size → wpList Try.prog ops Q rest (a.put o.dst v') w') : wpList Try.prog ops Q (o :: rest) a w := by
  obtain ⟨A', c', e, h2, h3, h4⟩ := hr
  cases e
  refine wpList_plain hgd fun _ hK => wp_appE w s x ho B w0 v xs hs hown hn ad ys.length c ys hx rfl hm1 (fun j u hu => ?_) fun v' w' h2 h3 h4 => hK _ _ (h v' w' h2 h3 h4)
  have hj : j < ys.length * 2 := by
    have := (List.getElem?_eq_some_iff.1 hu).1
    rwa [enC_len] at this
  obtain ⟨b', o', e, hc1, hc2⟩ := h4 (j / 2) (by omega)
  cases e
  have hat := enC_at ys (j / 2) (by omega)
  rw [Addr.add_lit]
  rcases Nat.mod_two_eq_zero_or_one j with hm | hm
  · rw [show j / 2 * 2 = j by omega] at hc1 hat
    rw [hc1, ← hat.1, hu]
  · rw [show o' + j / 2 * 2 + 1 = o' + j by omega] at hc2
    rw [show j / 2 * 2 + 1 = j by omega] at hat
    rw [hc2, ← hat.2, hu]

/-- entries in a slice that the call made -/
def NewE (w : World) (ys : List En) (e : Ending) (w' : World) : Prop := ∃ v, e = .returned v ∧ OwnE w.heap.size w v ys w'

set_option maxHeartbeats 1600000 in
theorem clone24 (w : World) (ad : Addr) (n c : Nat) (ys : List En) (h : Es w (.slice (some ad) n c) ys) (hn : n ≤ 100000) :
    Calls Try.prog 24 #[.slice (some ad) n c] w (NewE w ys) := by
  have HO := empE w.heap.size w w (Below.refl _ _) (Nat.le_refl _)
  have HR := h.call ((Below.refl w.heap.size w).alloc (Nat.le_refl _) (.cells #[] 28 (0, 0)))
  clear h
  have q : ∀ W : World, (binOp BinOp.eql 32 (.slice (some ad) n c) (.slice none 0 0)).run Try.prog W = .ok (.bool false) W := by intro W; kernel_rfl
  go_enter Try.func24, Try.ntmps24
  go_wp2_with (refine wpList_appR _ rfl _ _ rfl w.heap.size w _ [] rfl HO (by simp) ad n c ys rfl HR hn ?_; intro v3 w3 h3 _ _)
  go_ret
  exact ⟨_, rfl, by simpa using h3⟩

set_option maxHeartbeats 1600000 in
theorem entries12 (w : World) (h : Pc w b g last at_) (hl : last ≤ 11) :
    Calls Try.prog 12 #[.pointer (some ⟨b, 0, none⟩)] w (NewE w (lis g (last + 1))) := by
  have h1 := h.drew
  have hb : Below w.heap.size w w.drew := (Below.refl _ w).drew
  go_enter Try.func12, Try.ntmps12
  go_wp2
  refine wp_region_still_tail 9 (by kernel_rfl) (by kernel_rfl) ?_
  change wpStill Try.prog _ w.drew (fun a' => wpList Try.prog _ _ _ a' w.drew) _ _
  have hz : w.drew.heap.size = w.heap.size := rfl
  generalize w.drew = wd at *
  have c24 := h1.c24
  have i0 : (last : Int) + 1 ≤ 12 := by omega
  have i1 : 0 ≤ (last : Int) + 1 := by omega
  have i3 : ((last : Int) + 1).toNat = last + 1 := by omega
  have i4 : IntKind.i64.wrap ((last : Int) + 1) = (last : Int) + 1 := IntWalk.i64_in _ (by omega)
  simp only [List.take_succ_cons, List.take_zero, List.drop_succ_cons, List.drop_zero]
  repeat still_step
  refine wpStill_nil ?_
  go_wp2_with fail
  refine (clone24 wd ⟨b, 0, none⟩ (last + 1) 12 (lis g (last + 1)) (h1.es _ _ (by omega) (by omega)) (by omega)).mono ?_
  rintro e w2 ⟨v, rfl, hv⟩
  go_wp2
  go_ret
  exact ⟨v, rfl, by rw [← hz]; exact ⟨hv.1, (hb.mono (by omega)).trans hv.2.1, hv.2.2⟩⟩
end
end Go.Proofs.Ytbkhlmnonjkelaa
