/-
  Put together: Add.
-/
import Derived.Test.YthigandmemifoaaGreatDoorP18
import Derived.Laws.AppendOwnNone
namespace Go.Proofs.YthigandmemifoaaGreatDoor
open Go.RowKit Go.PlainAid
set_option maxRecDepth 100000
section
variable {P : Program} {ops : Array Oper} {Q : Exit → Act → World → Prop} {md : Region.Mode} {S : World → Prop} {n : Nat}
theorem sink_take2 {i : Nat} {oi : Oper} {d : Option Tmp} {v : Value} {m : Nat} {ls : Array Bool} {a : Act} {w : World} (hi : ops[i]? = some oi) (hd : oi.dst = d) (hs : Region.noSelect ops = true) (hw : Region.waitsFor md ops n i = true)
    (hf : Region.free md ops ls i = true) (hr : (Region.ready md ops ls).contains i = true) (hQ : ∀ c a w, Q (.panic c) (a.put d v) w → Q (.panic c) a w)
    (hy : YieldsIf P ops S oi v a) (hS : S w) (h : wpSink P md ops Q S n m (ls.setIfInBounds i true) (a.put d v) w) : wpSink P md ops Q S n (m + 1) ls a w := by
  subst hd
  exact sink_take hi hs hw hf hr hQ hy hS h
end
theorem info133 : (Tryz.prog.info? 133).map (fun i => (i.zero, i.size, i.bytes)) = some (some (.agg #[.int .i64 0, .slice none 0 0]), 2, 32) := by kernel_rfl
theorem enC_one {l : List En} (h : ∀ e ∈ l, e.u.oneCell' = true) : ∀ u ∈ l.flatMap enC, u.oneCell' = true := by
  intro u hu
  simp only [List.mem_flatMap, enC] at hu
  obtain ⟨e, he, hu⟩ := hu
  simp at hu
  rcases hu with rfl | rfl
  · rfl
  · exact h e he
theorem own_shape {w : World} {B e size n : Nat} {v : Value} {xs : List Value} (h : w.ownsRow B e size v n xs) : ∃ A n c, v = .slice A n c := by
  rcases h.2 with ⟨e, _⟩ | ⟨g, cp, _, e, _⟩
  · exact ⟨_, _, _, e⟩
  · exact ⟨_, _, _, e⟩
/-- append(v, x...) of entries -/
theorem wp_appE {o : Oper} {a : Act} {K : Act → World → Prop} {Q : Exit → Act → World → Prop} (w : World) (s x : Operand)
    (ho : o.op = .call { callee := .builtin .append, args := #[s, x], argTypes := #[125, 125] })
    (B : Nat) (v : Value) (n : Nat) (xs : List Value) (hs : a.eval s = v) (hown : w.ownsRow B 133 2 v n xs) (hn : n ≤ 1000000) (hB : B ≤ w.heap.size)
    (A : Option Addr) (m c : Nat) (ys : List En) (hx : a.eval x = .slice A m c) (hm : ys.length = m) (hm1 : m ≤ 1000000) (hA : A = none → m = 0 ∧ c = 0) (hone : ∀ e ∈ ys, e.u.oneCell' = true)
    (hb : ∀ ad, A = some ad → ∀ j u, (ys.flatMap enC)[j]? = some u → w.cell? (ad.add j) = some u)
    (h : ∀ v' w', w'.ownsRow B 133 2 v' (n + m) (xs ++ ys.flatMap enC) → w.grownBy w' v.ownBlock → v'.ownBlock = v.ownBlock ∨ v'.ownBlock = some w.heap.size → K (a.put o.dst v') w') : o.wp Tryz.prog a w K Q := by
  obtain ⟨i0, hi, hz0, hz1, hz2⟩ := info_parts info133
  cases A with
  | none =>
    obtain ⟨rfl, rfl⟩ := hA rfl
    obtain rfl : ys = [] := List.eq_nil_of_length_eq_zero hm
    have hr := run_append_owned_none (P := Tryz.prog) (w := w) B 125 o.type 133 i0 2 Tryz.underlying125 hi v _ _ hown
    unfold Oper.wp execOp
    simp only [ho, resolve, invoke, builtin, Sem.run_bind, Sem.run_pure, Result.andThen_ok, List.map_toArray, List.map_cons, List.map_nil, hs, hx, hr]
    exact h v w (by simpa using hown) (World.grownBy.refl _ _) (Or.inl rfl)
  | some ad =>
    have hr := run_append_own_at (P := Tryz.prog) w B 125 o.type 133 i0 (.agg #[.int .i64 0, .slice none 0 0]) 2 32 Tryz.underlying125 hi hz0 hz1 hz2 rfl (by omega) v n _ hown ad m c (ys.flatMap enC) (by rw [enC_len, hm]) (hb ad rfl) (enC_one hone) (by unfold maxLen; omega) (by omega) hB
    obtain ⟨v', w', hr, h2, h3, _, h5⟩ := hr
    unfold Oper.wp execOp
    simp only [ho, resolve, invoke, builtin, Sem.run_bind, Sem.run_pure, Result.andThen_ok, List.map_toArray, List.map_cons, List.map_nil, hs, hx, hr]
    exact h v' w' h2 h3 h5
section
variable {w w0 : World} {B T cnt : Nat} {es : List En} {nd : Key → Option Nat} {ro : Nat → Option (Key × Nat)} {c : Nat} {key : Key} {b : Nat}
theorem kid42 (h : Tr B w0 T cnt es nd ro c w) (hk : nd key = some b) (k : Int) (t : ByteArray) (ht : t.size ≤ maxLen) (hc : c < maxLen) :
    Calls Tryz.prog 99 #[.pointer (some ⟨b, (preK cnt key).length, none⟩), .agg #[.int .i64 k, .string t]] w (KidPost B w0 T cnt es nd ro w (c + 1) (key ++ [kkO k t])) := by
  by_cases h1 : k = 1
  · subst h1
    refine (kidP h hk t).mono ?_
    rintro e w' ⟨N, nd', ro', he, h2, h3, h4, h5⟩
    exact ⟨N, nd', ro', he, h2.mono (Nat.le_succ _), h3, h4, h5⟩
  · rw [kkO, if_neg h1]
    exact kidS h hk k h1 t ht hc
theorem home_next {l : List Sg} {k : Nat} (hk : k < l.length) {key : Key} (h : home l = (key ++ (home (l.drop k)).1, (home (l.drop k)).2)) (h2 : (l.getD k default).1 ≠ 2) (h3 : (l.getD k default).1 ≠ 3) :
    home l = ((key ++ [kkO (l.getD k default).1 (l.getD k default).2]) ++ (home (l.drop (k + 1))).1, (home (l.drop (k + 1))).2) := by
  rw [h, drop_get l k hk, home, if_neg h2, if_neg h3]
  simp [kkO]
theorem home_at {l : List Sg} {k : Nat} (hk : k < l.length) {key : Key} (h : home l = (key ++ (home (l.drop k)).1, (home (l.drop k)).2)) :
    ((l.getD k default).1 = 2 → home l = (key, 2)) ∧ ((l.getD k default).1 = 3 → home l = (key, 3)) := by
  rw [drop_get l k hk, home] at h
  constructor
  · intro e
    rw [if_pos e] at h
    simpa using h
  · intro e
    rw [if_neg (by omega), if_pos e] at h
    simpa using h
theorem home_end {l : List Sg} {key : Key} (h : home l = (key ++ (home (l.drop l.length)).1, (home (l.drop l.length)).2)) : home l = (key, 4) := by
  rw [List.drop_length, home] at h
  simpa using h
/-- where add is -/
def AddMid (ro0 : Nat → Option (Key × Nat)) (w : World) (B : Nat) (w0 : World) (T cnt : Nat) (es : List En) (c : Nat) (l : List Sg) (eb : Nat) (n : Nat) (u : Value) (k : Nat) (nv : Value) (wr : World) : Prop :=
  ∃ key b nd ro, nv = .pointer (some ⟨b, (preK cnt key).length, none⟩) ∧ home l = (key ++ (home (l.drop k)).1, (home (l.drop k)).2) ∧ Tr B w0 T cnt es nd ro (c + k) wr ∧ nd key = some b ∧ (w.heap.size ≤ wr.heap.size ∧ ∀ g, g < w.heap.size → ro0 g = none → ro g = none ∧ wr.heap[g]? = w.heap[g]?) ∧ ro eb = none ∧ wr.heap[eb]? = some (.cells #[.int .i64 n, u] 133 (0, 0))
/-- what add comes to -/
def AddPost (ro0 : Nat → Option (Key × Nat)) (w : World) (B : Nat) (w0 : World) (T cnt : Nat) (es : List En) (c : Nat) (w' : World) : Prop := ∃ nd ro, Tr B w0 T cnt es nd ro c w' ∧ w.heap.size ≤ w'.heap.size ∧ ∀ g, g < w.heap.size → ro0 g = none → ro g = none ∧ w'.heap[g]? = w.heap[g]?
set_option maxHeartbeats 3200000 in
theorem add23 (h : Tr B w0 T cnt es nd ro c w) (A : Option Addr) (cap : Nat) (n : Nat) (l : List Sg) (hge : Gs w0 (.slice A l.length cap) l) (htx : ∀ g ∈ l, g.2.size ≤ maxLen) (hl : l.length ≤ 1000) (hes : es.length ≤ 1000) (hc : c ≤ 1000000) (hB0 : w0.heap.size ≤ B) :
    Calls Tryz.prog 82 #[.pointer (some ⟨T, 1, none⟩), .agg #[.int .i64 n, .slice A l.length cap]] w fun en w' => en = .returned (.tuple #[]) ∧ AddPost ro w B w0 T cnt (es ++ [⟨n, .slice A l.length cap, l⟩]) (c + l.length) w' := by
  have HGE := Lib.hid hge
  have HTX := Lib.hid htx
  have HES := Lib.hid hes
  have H0 := Lib.hid h
  have hge1 := hge
  obtain ⟨A', cap', e', hcap, hA0, hcc⟩ := hge1
  simp only [Value.slice.injEq] at e'
  obtain ⟨e1, -, e2⟩ := e'
  subst e1 e2
  have CC := Lib.hid hcc
  clear hcc hge htx hes
  have HEB0 := Lib.hid (blk_new w (.cells #[.int .i64 n, .slice A l.length cap] 133 (0, 0)))
  have TR0 := Lib.hid (h.alloc (.cells #[.int .i64 n, .slice A l.length cap] 133 (0, 0)))
  have RE0 : Hid (ro w.heap.size = none) := by
    show _ = _
    rcases hr : ro w.heap.size with _ | r
    · rfl
    · have := (h.fresh _ _ hr).2
      omega
  have KP0 : Hid (w.heap.size ≤ (w.alloc (.cells #[.int .i64 n, .slice A l.length cap] 133 (0, 0))).heap.size ∧ ∀ g, g < w.heap.size → ro g = none → ro g = none ∧ (w.alloc (.cells #[.int .i64 n, .slice A l.length cap] 133 (0, 0))).heap[g]? = w.heap[g]?) := ⟨by simp, fun g hg hr => ⟨hr, Below.heap_alloc _ _ _ hg⟩⟩
  have z1 : (w.alloc (.cells #[.int .i64 n, .slice A l.length cap] 133 (0, 0))).cell? ⟨w.heap.size, 1, none⟩ = some (.slice A l.length cap) := by rw [blk_cell HEB0.out]; rfl
  clear h
  go_enter Tryz.func82, Tryz.ntmps82
  go_wp2_with fail
  generalize w.alloc (.cells #[.int .i64 n, .slice A l.length cap] 133) = w1 at *
  generalize hEB : w.heap.size = eb at *
  have HEBq := Lib.hid hEB
  clear hEB
  go_loopw [0, 9] (fun nv i wr => ∃ k : Nat, k ≤ l.length ∧ i = .int .i64 k ∧ AddMid ro w B w0 T cnt es c l eb n (.slice A l.length cap) k nv wr) (fun _ i _ => l.length - (intOf i).toNat)
  case atStart =>
    refine ⟨0, Nat.zero_le _, rfl, [], T, nd, ro, rfl, by simp, TR0.out, H0.out.root, by rw [HEBq.out]; exact KP0.out, RE0.out, HEB0.out⟩
  case round =>
    obtain ⟨k, hk, rfl, key, b, nd9, ro9, rfl, hh, htr, hkb, hkp, hre, heb⟩ := hrel
    have HKP := Lib.hid hkp
    have HH := Lib.hid hh
    have TR := Lib.hid htr
    have HKB := Lib.hid hkb
    have HRE := Lib.hid hre
    have HEB := Lib.hid heb
    have HRB : Hid (ro9 b = some (key, 0)) := by
      obtain ⟨_, _, _, _, _, _, hr, _⟩ := htr.node _ _ hkb
      exact hr
    have HBE : Hid (b ≠ eb) := fun e => by have := HRB.out; rw [e, HRE.out] at this; cases this
    clear hh htr hkb hkp hre heb TR0 HEB0 RE0 H0 z1 KP0
    obtain ⟨o, ho⟩ : ∃ o, o = (preK cnt key).length := ⟨_, rfl⟩
    have HO := Lib.hid ho
    rw [← ho]
    clear ho
    by_cases hlt : k < l.length
    · have d0 : (k : Int) < (l.length : Int) := by omega
      obtain ⟨x, off, rfl, hc1, hc2⟩ := CC.out k hlt
      have hx : x < B := Nat.lt_of_lt_of_le (World.block_lt_of_cell? _ _ hc1) hB0
      have g1 : wr.cell? ⟨x, off + k * 2, none⟩ = some (.int .i64 (l.getD k default).1) := by rw [TR.out.below.cell hx]; exact hc1
      have g2 : wr.cell? ⟨x, off + k * 2 + 1, none⟩ = some (.string (l.getD k default).2) := by rw [TR.out.below.cell hx]; exact hc2
      have HT := Lib.hid (HTX.out _ (getD_mem l k hlt))
      have HA := Lib.hid (home_at hlt HH.out)
      have HNX := Lib.hid (home_next hlt HH.out)
      clear hc1 hc2
      obtain ⟨⟨s1, s2⟩, hs⟩ : ∃ s : Sg, l.getD k default = s := ⟨_, rfl⟩
      rw [hs] at g1 g2 HT HA HNX
      clear hs
      have g1 : wr.cell? ⟨x, off + k * 2, none⟩ = some (.int .i64 s1) := g1
      have g2 : wr.cell? ⟨x, off + k * 2 + 1, none⟩ = some (.string s2) := g2
      have HS2 := Lib.hid (blk_new wr (.cells #[.int .i64 s1, .string s2] 28 (0, 0)))
      have TR2 := Lib.hid (TR.out.alloc (.cells #[.int .i64 s1, .string s2] 28 (0, 0)))
      have HEB2 := Lib.hid (blk_alloc HEB.out (.cells #[.int .i64 s1, .string s2] 28 (0, 0)))
      have HEL : Hid (eb < (wr.alloc (.cells #[.int .i64 s1, .string s2] 28 (0, 0))).heap.size) := blk_lt HEB2.out
      have W2S : Hid (wr.heap.size ≤ (wr.alloc (.cells #[.int .i64 s1, .string s2] 28 (0, 0))).heap.size) := by show _ ≤ _; simp
      have W2K : Hid (∀ g, g < wr.heap.size → (wr.alloc (.cells #[.int .i64 s1, .string s2] 28 (0, 0))).heap[g]? = wr.heap[g]?) := fun g hg => Below.heap_alloc _ _ _ hg
      have q0 : (wr.alloc (.cells #[.int .i64 s1, .string s2] 28 (0, 0))).cell? ⟨wr.heap.size, 0, none⟩ = some (.int .i64 s1) := by rw [blk_cell HS2.out]; rfl
      have q1 : (wr.alloc (.cells #[.int .i64 s1, .string s2] 28 (0, 0))).cell? ⟨wr.heap.size, 1, none⟩ = some (.string s2) := by rw [blk_cell HS2.out]; rfl
      by_cases h2 : s1 = 2
      · have HM := Lib.hid (HA.out.1 h2)
        subst h2
        go_wp2_with fail
        generalize wr.alloc (.cells #[.int .i64 2, .string s2] 28) = w2 at *
        clear TR HEB g1 g2 q0 q1 HS2
        have TR := TR2
        have HEB := HEB2
        clear TR2 HEB2
        obtain ⟨m9, va9, vb9, vc9, ⟨y0, y1, y2, y3, y4⟩, hf9, -, r2, r3, r4, hbl⟩ := TR.out.cells HKB.out
        have hel := blk_lt HEB.out
        obtain ⟨v9, hv9⟩ : ∃ v9, v9 = va9 := ⟨_, rfl⟩
        have ENT := Lib.hid (TR.out.entry (i := 2) (v := v9) (e := ⟨n, .slice (some ⟨x, off, none⟩) l.length cap, l⟩) HKB.out (by omega) (by rw [hv9]; exact y2) HM.out HGE.out)
        have hrow : Row w2 B es ro9 key 2 v9 := by rw [hv9]; exact r2
        have cv : w2.cell? ⟨b, o + 2, none⟩ = some v9 := by rw [HO.out, hv9]; exact y2
        have fz : w2.frozen? ⟨b, o + 2, none⟩ = false := hf9 _
        have ce0 : w2.cell? ⟨eb, 0, none⟩ = some (.int .i64 n) := by rw [blk_cell HEB.out]; rfl
        have ce1 : w2.cell? ⟨eb, 1, none⟩ = some (.slice (some ⟨x, off, none⟩) l.length cap) := by rw [blk_cell HEB.out]; rfl
        have LEN : Hid ((slot En.l es key 2).length ≤ 1000000) := by have h1 : (slot En.l es key 2).length ≤ es.length := List.length_filter_le _ _; have h2 := HES.out; show _ ≤ _; omega
        have TRA := Lib.hid (TR.out.call (((Below.refl _ _).drew).alloc (Nat.le_refl _) (.cells #[.int .i64 n, .slice (some ⟨x, off, none⟩) l.length cap] 133 (0, 0))))
        have OWN : Hid ((w2.drew.alloc (.cells #[.int .i64 n, .slice (some ⟨x, off, none⟩) l.length cap] 133 (0, 0))).ownsRow B 133 2 v9 (slot En.l es key 2).length ((slot En.l es key 2).flatMap enC)) := rowV_frame hrow.1 fun g hg => Below.heap_alloc _ _ _ (hrow.1.lt g hg).2
        have FIN : Hid (∀ v' w', World.ownsRow w' B 133 2 v' ((slot En.l es key 2).length + 1) ((slot En.l es key 2).flatMap enC ++ [(⟨n, .slice (some ⟨x, off, none⟩) l.length cap, l⟩ : En)].flatMap enC) → (w2.drew.alloc (.cells #[.int .i64 n, .slice (some ⟨x, off, none⟩) l.length cap] 133 (0, 0))).grownBy w' v9.ownBlock → (v'.ownBlock = v9.ownBlock ∨ v'.ownBlock = some (w2.drew.alloc (.cells #[.int .i64 n, .slice (some ⟨x, off, none⟩) l.length cap] 133 (0, 0))).heap.size) → ∃ ro', Tr B w0 T cnt (es ++ [⟨n, .slice (some ⟨x, off, none⟩) l.length cap, l⟩]) nd9 ro' (c + k) (w'.setCell ⟨b, o + 2, none⟩ v') ∧ ∀ g, g < (w2.drew.alloc (.cells #[.int .i64 n, .slice (some ⟨x, off, none⟩) l.length cap] 133 (0, 0))).heap.size → ro9 g = none → ro' g = none ∧ (w'.setCell ⟨b, o + 2, none⟩ v').heap[g]? = (w2.drew.alloc (.cells #[.int .i64 n, .slice (some ⟨x, off, none⟩) l.length cap] 133 (0, 0))).heap[g]?) := by
          have e3 : (w2.drew.alloc (.cells #[.int .i64 n, .slice (some ⟨x, off, none⟩) l.length cap] 133 (0, 0))).cell? ⟨b, (preK cnt key).length + 2, none⟩ = some v9 := by rw [World.cell?_of_block (w := w2) (Below.heap_alloc w2.drew _ b hbl), ← HO.out]; exact cv
          have e4 := (TRA.out.entry (i := 2) (v := v9) (e := ⟨n, .slice (some ⟨x, off, none⟩) l.length cap, l⟩) HKB.out (by omega) e3 HM.out HGE.out).2
          rw [← HO.out] at e4
          intro v' w' q1 q2 q3
          exact e4 v' w' (by simpa using q1) q2 q3
        have ROWB : Hid (∀ g, v9.ownBlock = some g → g ≠ b) := fun g hg e => by have h1 := hrow.2 g hg; have h2 := HRB.out; rw [e, h2] at h1; simp at h1
        have ROWE : Hid (∀ g, v9.ownBlock = some g → g ≠ eb) := fun g hg e => by have h1 := hrow.2 g hg; rw [e, HRE.out] at h1; cases h1
        obtain ⟨A9, n9, c9, hA9⟩ : ∃ A9 n9 c9, v9 = .slice A9 n9 c9 := by
          rcases hrow.1.2 with ⟨e, _⟩ | ⟨g, cp, _, e, _⟩
          · exact ⟨_, _, _, e⟩
          · exact ⟨_, _, _, e⟩
        clear hrow hf9 r2 r3 r4 y0 y1 y2 y3 y4 hv9 ENT TRA
        subst hA9
        have hS0 : (fun W : World => W.cell? ⟨b, o + 2, none⟩ = some (.slice A9 n9 c9) ∧ W.cell? ⟨eb, 0, none⟩ = some (.int .i64 n) ∧ W.cell? ⟨eb, 1, none⟩ = some (.slice (some ⟨x, off, none⟩) l.length cap)) w2.drew := ⟨cv, ce0, ce1⟩
        refine wp_region_sink (S := (fun W : World => W.cell? ⟨b, o + 2, none⟩ = some (.slice A9 n9 c9) ∧ W.cell? ⟨eb, 0, none⟩ = some (.int .i64 n) ∧ W.cell? ⟨eb, 1, none⟩ = some (.slice (some ⟨x, off, none⟩) l.length cap))) (n := 10) (by kernel_rfl) ?_
        change wpSink _ _ _ _ _ 10 11 _ _ _
        refine sink_take2 (i := 0) (d := some 17) (v := ?_) rfl rfl (by kernel_rfl) (by kernel_rfl) (by kernel_rfl) (by kernel_rfl) (fun _ _ _ h => h) (Or.inl ⟨by rfl, ?_⟩) hS0 ?_
        rotate_left
        · intro wz hSw
          (try dsimp only at hSw)
          obtain ⟨g1, g2, g3⟩ := hSw
          go_simp
          (try with_reducible rfl)
        try simp only [Act.put, List.setIfInBounds_toArray, List.set_cons_zero, List.set_cons_succ]
        refine sink_take2 (i := 1) (d := some 18) (v := ?_) rfl rfl (by kernel_rfl) (by kernel_rfl) (by kernel_rfl) (by kernel_rfl) (fun _ _ _ h => h) (Or.inl ⟨by rfl, ?_⟩) hS0 ?_
        rotate_left
        · intro wz hSw
          (try dsimp only at hSw)
          obtain ⟨g1, g2, g3⟩ := hSw
          go_simp
          (try with_reducible rfl)
        try simp only [Act.put, List.setIfInBounds_toArray, List.set_cons_zero, List.set_cons_succ]
        refine sink_take2 (i := 2) (d := some 19) (v := ?_) rfl rfl (by kernel_rfl) (by kernel_rfl) (by kernel_rfl) (by kernel_rfl) (fun _ _ _ h => h) (Or.inl ⟨by rfl, ?_⟩) hS0 ?_
        rotate_left
        · intro wz hSw
          (try dsimp only at hSw)
          obtain ⟨g1, g2, g3⟩ := hSw
          go_simp
          (try with_reducible rfl)
        try simp only [Act.put, List.setIfInBounds_toArray, List.set_cons_zero, List.set_cons_succ]
        refine sink_take2 (i := 3) (d := some 20) (v := ?_) rfl rfl (by kernel_rfl) (by kernel_rfl) (by kernel_rfl) (by kernel_rfl) (fun _ _ _ h => h) (Or.inl ⟨by rfl, ?_⟩) hS0 ?_
        rotate_left
        · intro wz hSw
          (try dsimp only at hSw)
          obtain ⟨g1, g2, g3⟩ := hSw
          go_simp
          (try with_reducible rfl)
        try simp only [Act.put, List.setIfInBounds_toArray, List.set_cons_zero, List.set_cons_succ]
        refine sink_take2 (i := 4) (d := some 21) (v := ?_) rfl rfl (by kernel_rfl) (by kernel_rfl) (by kernel_rfl) (by kernel_rfl) (fun _ _ _ h => h) (Or.inl ⟨by rfl, ?_⟩) hS0 ?_
        rotate_left
        · intro wz hSw
          (try dsimp only at hSw)
          obtain ⟨g1, g2, g3⟩ := hSw
          go_simp
          (try with_reducible rfl)
        try simp only [Act.put, List.setIfInBounds_toArray, List.set_cons_zero, List.set_cons_succ]
        refine sink_take2 (i := 5) (d := some 22) (v := ?_) rfl rfl (by kernel_rfl) (by kernel_rfl) (by kernel_rfl) (by kernel_rfl) (fun _ _ _ h => h) (Or.inl ⟨by rfl, ?_⟩) hS0 ?_
        rotate_left
        · intro wz hSw
          (try dsimp only at hSw)
          obtain ⟨g1, g2, g3⟩ := hSw
          go_simp
          (try with_reducible rfl)
        try simp only [Act.put, List.setIfInBounds_toArray, List.set_cons_zero, List.set_cons_succ]
        refine sink_one (i := 6) (by kernel_rfl) ?_
        refine wpOp_step rfl (fun K' hK => ?_)
        have HKK := Lib.hid hK
        clear hK
        rw [if_pos (by rfl)]
        go_simp
        have hS6 : (fun W : World => W.cell? ⟨b, o + 2, none⟩ = some (.slice A9 n9 c9) ∧ W.cell? ⟨eb, 0, none⟩ = some (.int .i64 n) ∧ W.cell? ⟨eb, 1, none⟩ = some (.slice (some ⟨x, off, none⟩) l.length cap)) (w2.drew.alloc (.cells #[.int .i64 n, .slice (some ⟨x, off, none⟩) l.length cap] 133 (0, 0))) := ⟨by rw [World.cell?_of_block (w := w2) (Below.heap_alloc w2.drew _ b hbl)]; exact cv, by rw [World.cell?_of_block (w := w2) (Below.heap_alloc w2.drew _ eb hel)]; exact ce0, by rw [World.cell?_of_block (w := w2) (Below.heap_alloc w2.drew _ eb hel)]; exact ce1⟩
        refine HKK.out _ _ ⟨Or.inr hS6, ?_⟩
        clear HKK
        try simp only [Act.put, List.setIfInBounds_toArray, List.set_cons_zero, List.set_cons_succ]
        refine sink_one (i := 7) (by kernel_rfl) ?_
        refine wpOp_step rfl (fun K' hK => ?_)
        have HKK := Lib.hid hK
        clear hK
        rw [if_pos (by rfl)]
        refine wp_appE (w2.drew.alloc (.cells #[.int .i64 n, .slice (some ⟨x, off, none⟩) l.length cap] 133 (0, 0))) (.tmp 21) (.tmp 23) rfl B (.slice A9 n9 c9) _ _ rfl (OWN.out) LEN.out (by have := TR.out.size; simp; omega) (some ⟨w2.heap.size, 0, none⟩) 1 1 [⟨n, .slice (some ⟨x, off, none⟩) l.length cap, l⟩] rfl rfl (by omega) (fun e => by cases e) (fun e he => by simp at he; subst he; rfl) (fun ad e => by cases e; exact World.news_of_block (blk_new w2.drew _)) ?_
        intro v10 w10 h10 hg10 hb10
        obtain ⟨A10, n10, c10, rfl⟩ := own_shape h10
        have hbw : b ≠ eb := HBE.out
        have kb : w10.heap[b]? = w2.heap[b]? := (hg10.block b (by simp; omega) (fun e => ROWB.out b e.symm rfl)).trans (Below.heap_alloc _ _ _ hbl)
        have ke : w10.heap[eb]? = w2.heap[eb]? := (hg10.block eb (by simp; omega) (fun e => ROWE.out eb e.symm rfl)).trans (Below.heap_alloc _ _ _ hel)
        have hS7 : (fun W : World => W.cell? ⟨b, o + 2, none⟩ = some (.slice A9 n9 c9) ∧ W.cell? ⟨eb, 0, none⟩ = some (.int .i64 n) ∧ W.cell? ⟨eb, 1, none⟩ = some (.slice (some ⟨x, off, none⟩) l.length cap)) w10 := ⟨by rw [World.cell?_of_block (w := w2) kb]; exact cv, by rw [World.cell?_of_block (w := w2) ke]; exact ce0, by rw [World.cell?_of_block (w := w2) ke]; exact ce1⟩
        have f10 : w10.frozen? ⟨b, o + 2, none⟩ = false := by rw [World.frozen?_of_block (w := w2) kb]; exact fz
        have c10 : w10.cell? ⟨b, o + 2, none⟩ = some (.slice A9 n9 c9) := hS7.1
        have FIN10 := Lib.hid (FIN.out _ w10 h10 hg10 hb10)
        have SZ10 : Hid (w2.heap.size ≤ w10.heap.size) := by have h1 := hg10.size; simp at h1; show _ ≤ _; omega
        clear h10 hg10 hb10 kb ke
        refine HKK.out _ _ ⟨Or.inr hS7, ?_⟩
        clear HKK
        change wpSink _ _ _ _ _ _ _ _ (Act.put _ (some 24) _) _
        try simp only [Act.put, List.setIfInBounds_toArray, List.set_cons_zero, List.set_cons_succ]
        refine sink_one (i := 8) (by kernel_rfl) ?_
        refine wpOp_step rfl (fun K' hK => ?_)
        have HKK := Lib.hid hK
        clear hK
        rw [if_pos (by rfl)]
        go_simp
        refine HKK.out _ _ ⟨Or.inr hS7, ?_⟩
        clear HKK
        try simp only [Act.put, List.setIfInBounds_toArray, List.set_cons_zero, List.set_cons_succ]
        refine sink_one (i := 9) (by kernel_rfl) ?_
        refine wpOp_step rfl (fun K' hK => ?_)
        have HKK := Lib.hid hK
        clear hK
        rw [if_pos (by rfl)]
        go_simp
        refine HKK.out _ _ ⟨Or.inr hS7, ?_⟩
        clear HKK
        try simp only [Act.put, List.setIfInBounds_toArray, List.set_cons_zero, List.set_cons_succ]
        refine sink_one (i := 10) (by kernel_rfl) ?_
        refine wpOp_step rfl (fun K' hK => ?_)
        have HKK := Lib.hid hK
        clear hK
        rw [if_pos (by rfl)]
        go_simp
        refine HKK.out _ _ ⟨Or.inl rfl, ?_⟩
        clear HKK
        refine sink_done (by kernel_rfl) ?_
        go_wp2
        (try simp only [Exit.inBlock, Exit.then])
        refine bodyPost_ret (results_none rfl _ _ _) rfl ?_
        obtain ⟨ro', hro', hkp'⟩ := FIN10.out
        have hs1 := SZ10.out
        have hs2 := HKP.out.1
        refine ⟨rfl, _, _, hro'.mono (by omega), ?_, fun g hg hr => ?_⟩
        · have hs3 := W2S.out
          simp [World.setCell]
          omega
        · obtain ⟨r3, r4⟩ := HKP.out.2 g hg hr
          have hs3 := W2S.out
          obtain ⟨r5, r6⟩ := hkp' g (by simp; omega) r3
          exact ⟨r5, r6.trans ((Below.heap_alloc _ _ _ (by show g < w2.heap.size; omega)).trans ((W2K.out g (by omega)).trans r4))⟩
      · by_cases h3 : s1 = 3
        · have HM := Lib.hid (HA.out.2 h3)
          subst h3
          go_wp2_with fail
          generalize wr.alloc (.cells #[.int .i64 3, .string s2] 28) = w2 at *
          clear TR HEB g1 g2 q0 q1 HS2 h2
          have TR := TR2
          have HEB := HEB2
          clear TR2 HEB2
          obtain ⟨m9, va9, vb9, vc9, ⟨y0, y1, y2, y3, y4⟩, hf9, -, r2, r3, r4, hbl⟩ := TR.out.cells HKB.out
          have hel := blk_lt HEB.out
          obtain ⟨v9, hv9⟩ : ∃ v9, v9 = vb9 := ⟨_, rfl⟩
          have ENT := Lib.hid (TR.out.entry (i := 3) (v := v9) (e := ⟨n, .slice (some ⟨x, off, none⟩) l.length cap, l⟩) HKB.out (by omega) (by rw [hv9]; exact y3) HM.out HGE.out)
          have hrow : Row w2 B es ro9 key 3 v9 := by rw [hv9]; exact r3
          have cv : w2.cell? ⟨b, o + 3, none⟩ = some v9 := by rw [HO.out, hv9]; exact y3
          have fz : w2.frozen? ⟨b, o + 3, none⟩ = false := hf9 _
          have ce0 : w2.cell? ⟨eb, 0, none⟩ = some (.int .i64 n) := by rw [blk_cell HEB.out]; rfl
          have ce1 : w2.cell? ⟨eb, 1, none⟩ = some (.slice (some ⟨x, off, none⟩) l.length cap) := by rw [blk_cell HEB.out]; rfl
          have LEN : Hid ((slot En.l es key 3).length ≤ 1000000) := by have h1 : (slot En.l es key 3).length ≤ es.length := List.length_filter_le _ _; have h2 := HES.out; show _ ≤ _; omega
          have TRA := Lib.hid (TR.out.call (((Below.refl _ _).drew).alloc (Nat.le_refl _) (.cells #[.int .i64 n, .slice (some ⟨x, off, none⟩) l.length cap] 133 (0, 0))))
          have OWN : Hid ((w2.drew.alloc (.cells #[.int .i64 n, .slice (some ⟨x, off, none⟩) l.length cap] 133 (0, 0))).ownsRow B 133 2 v9 (slot En.l es key 3).length ((slot En.l es key 3).flatMap enC)) := rowV_frame hrow.1 fun g hg => Below.heap_alloc _ _ _ (hrow.1.lt g hg).2
          have FIN : Hid (∀ v' w', World.ownsRow w' B 133 2 v' ((slot En.l es key 3).length + 1) ((slot En.l es key 3).flatMap enC ++ [(⟨n, .slice (some ⟨x, off, none⟩) l.length cap, l⟩ : En)].flatMap enC) → (w2.drew.alloc (.cells #[.int .i64 n, .slice (some ⟨x, off, none⟩) l.length cap] 133 (0, 0))).grownBy w' v9.ownBlock → (v'.ownBlock = v9.ownBlock ∨ v'.ownBlock = some (w2.drew.alloc (.cells #[.int .i64 n, .slice (some ⟨x, off, none⟩) l.length cap] 133 (0, 0))).heap.size) → ∃ ro', Tr B w0 T cnt (es ++ [⟨n, .slice (some ⟨x, off, none⟩) l.length cap, l⟩]) nd9 ro' (c + k) (w'.setCell ⟨b, o + 3, none⟩ v') ∧ ∀ g, g < (w2.drew.alloc (.cells #[.int .i64 n, .slice (some ⟨x, off, none⟩) l.length cap] 133 (0, 0))).heap.size → ro9 g = none → ro' g = none ∧ (w'.setCell ⟨b, o + 3, none⟩ v').heap[g]? = (w2.drew.alloc (.cells #[.int .i64 n, .slice (some ⟨x, off, none⟩) l.length cap] 133 (0, 0))).heap[g]?) := by
            have e3 : (w2.drew.alloc (.cells #[.int .i64 n, .slice (some ⟨x, off, none⟩) l.length cap] 133 (0, 0))).cell? ⟨b, (preK cnt key).length + 3, none⟩ = some v9 := by rw [World.cell?_of_block (w := w2) (Below.heap_alloc w2.drew _ b hbl), ← HO.out]; exact cv
            have e4 := (TRA.out.entry (i := 3) (v := v9) (e := ⟨n, .slice (some ⟨x, off, none⟩) l.length cap, l⟩) HKB.out (by omega) e3 HM.out HGE.out).2
            rw [← HO.out] at e4
            intro v' w' q1 q2 q3
            exact e4 v' w' (by simpa using q1) q2 q3
          have ROWB : Hid (∀ g, v9.ownBlock = some g → g ≠ b) := fun g hg e => by have h1 := hrow.2 g hg; have h2 := HRB.out; rw [e, h2] at h1; simp at h1
          have ROWE : Hid (∀ g, v9.ownBlock = some g → g ≠ eb) := fun g hg e => by have h1 := hrow.2 g hg; rw [e, HRE.out] at h1; cases h1
          obtain ⟨A9, n9, c9, hA9⟩ : ∃ A9 n9 c9, v9 = .slice A9 n9 c9 := by
            rcases hrow.1.2 with ⟨e, _⟩ | ⟨g, cp, _, e, _⟩
            · exact ⟨_, _, _, e⟩
            · exact ⟨_, _, _, e⟩
          clear hrow hf9 r2 r3 r4 y0 y1 y2 y3 y4 hv9 ENT TRA
          subst hA9
          have hS0 : (fun W : World => W.cell? ⟨b, o + 3, none⟩ = some (.slice A9 n9 c9) ∧ W.cell? ⟨eb, 0, none⟩ = some (.int .i64 n) ∧ W.cell? ⟨eb, 1, none⟩ = some (.slice (some ⟨x, off, none⟩) l.length cap)) w2.drew := ⟨cv, ce0, ce1⟩
          refine wp_region_sink (S := (fun W : World => W.cell? ⟨b, o + 3, none⟩ = some (.slice A9 n9 c9) ∧ W.cell? ⟨eb, 0, none⟩ = some (.int .i64 n) ∧ W.cell? ⟨eb, 1, none⟩ = some (.slice (some ⟨x, off, none⟩) l.length cap))) (n := 10) (by kernel_rfl) ?_
          change wpSink _ _ _ _ _ 10 11 _ _ _
          refine sink_take2 (i := 0) (d := some 29) (v := ?_) rfl rfl (by kernel_rfl) (by kernel_rfl) (by kernel_rfl) (by kernel_rfl) (fun _ _ _ h => h) (Or.inl ⟨by rfl, ?_⟩) hS0 ?_
          rotate_left
          · intro wz hSw
            (try dsimp only at hSw)
            obtain ⟨g1, g2, g3⟩ := hSw
            go_simp
            (try with_reducible rfl)
          try simp only [Act.put, List.setIfInBounds_toArray, List.set_cons_zero, List.set_cons_succ]
          refine sink_take2 (i := 1) (d := some 30) (v := ?_) rfl rfl (by kernel_rfl) (by kernel_rfl) (by kernel_rfl) (by kernel_rfl) (fun _ _ _ h => h) (Or.inl ⟨by rfl, ?_⟩) hS0 ?_
          rotate_left
          · intro wz hSw
            (try dsimp only at hSw)
            obtain ⟨g1, g2, g3⟩ := hSw
            go_simp
            (try with_reducible rfl)
          try simp only [Act.put, List.setIfInBounds_toArray, List.set_cons_zero, List.set_cons_succ]
          refine sink_take2 (i := 2) (d := some 31) (v := ?_) rfl rfl (by kernel_rfl) (by kernel_rfl) (by kernel_rfl) (by kernel_rfl) (fun _ _ _ h => h) (Or.inl ⟨by rfl, ?_⟩) hS0 ?_
          rotate_left
          · intro wz hSw
            (try dsimp only at hSw)
            obtain ⟨g1, g2, g3⟩ := hSw
            go_simp
            (try with_reducible rfl)
          try simp only [Act.put, List.setIfInBounds_toArray, List.set_cons_zero, List.set_cons_succ]
          refine sink_take2 (i := 3) (d := some 32) (v := ?_) rfl rfl (by kernel_rfl) (by kernel_rfl) (by kernel_rfl) (by kernel_rfl) (fun _ _ _ h => h) (Or.inl ⟨by rfl, ?_⟩) hS0 ?_
          rotate_left
          · intro wz hSw
            (try dsimp only at hSw)
            obtain ⟨g1, g2, g3⟩ := hSw
            go_simp
            (try with_reducible rfl)
          try simp only [Act.put, List.setIfInBounds_toArray, List.set_cons_zero, List.set_cons_succ]
          refine sink_take2 (i := 4) (d := some 33) (v := ?_) rfl rfl (by kernel_rfl) (by kernel_rfl) (by kernel_rfl) (by kernel_rfl) (fun _ _ _ h => h) (Or.inl ⟨by rfl, ?_⟩) hS0 ?_
          rotate_left
          · intro wz hSw
            (try dsimp only at hSw)
            obtain ⟨g1, g2, g3⟩ := hSw
            go_simp
            (try with_reducible rfl)
          try simp only [Act.put, List.setIfInBounds_toArray, List.set_cons_zero, List.set_cons_succ]
          refine sink_take2 (i := 5) (d := some 34) (v := ?_) rfl rfl (by kernel_rfl) (by kernel_rfl) (by kernel_rfl) (by kernel_rfl) (fun _ _ _ h => h) (Or.inl ⟨by rfl, ?_⟩) hS0 ?_
          rotate_left
          · intro wz hSw
            (try dsimp only at hSw)
            obtain ⟨g1, g2, g3⟩ := hSw
            go_simp
            (try with_reducible rfl)
          try simp only [Act.put, List.setIfInBounds_toArray, List.set_cons_zero, List.set_cons_succ]
          refine sink_one (i := 6) (by kernel_rfl) ?_
          refine wpOp_step rfl (fun K' hK => ?_)
          have HKK := Lib.hid hK
          clear hK
          rw [if_pos (by rfl)]
          go_simp
          have hS6 : (fun W : World => W.cell? ⟨b, o + 3, none⟩ = some (.slice A9 n9 c9) ∧ W.cell? ⟨eb, 0, none⟩ = some (.int .i64 n) ∧ W.cell? ⟨eb, 1, none⟩ = some (.slice (some ⟨x, off, none⟩) l.length cap)) (w2.drew.alloc (.cells #[.int .i64 n, .slice (some ⟨x, off, none⟩) l.length cap] 133 (0, 0))) := ⟨by rw [World.cell?_of_block (w := w2) (Below.heap_alloc w2.drew _ b hbl)]; exact cv, by rw [World.cell?_of_block (w := w2) (Below.heap_alloc w2.drew _ eb hel)]; exact ce0, by rw [World.cell?_of_block (w := w2) (Below.heap_alloc w2.drew _ eb hel)]; exact ce1⟩
          refine HKK.out _ _ ⟨Or.inr hS6, ?_⟩
          clear HKK
          try simp only [Act.put, List.setIfInBounds_toArray, List.set_cons_zero, List.set_cons_succ]
          refine sink_one (i := 7) (by kernel_rfl) ?_
          refine wpOp_step rfl (fun K' hK => ?_)
          have HKK := Lib.hid hK
          clear hK
          rw [if_pos (by rfl)]
          refine wp_appE (w2.drew.alloc (.cells #[.int .i64 n, .slice (some ⟨x, off, none⟩) l.length cap] 133 (0, 0))) (.tmp 33) (.tmp 35) rfl B (.slice A9 n9 c9) _ _ rfl (OWN.out) LEN.out (by have := TR.out.size; simp; omega) (some ⟨w2.heap.size, 0, none⟩) 1 1 [⟨n, .slice (some ⟨x, off, none⟩) l.length cap, l⟩] rfl rfl (by omega) (fun e => by cases e) (fun e he => by simp at he; subst he; rfl) (fun ad e => by cases e; exact World.news_of_block (blk_new w2.drew _)) ?_
          intro v10 w10 h10 hg10 hb10
          obtain ⟨A10, n10, c10, rfl⟩ := own_shape h10
          have hbw : b ≠ eb := HBE.out
          have kb : w10.heap[b]? = w2.heap[b]? := (hg10.block b (by simp; omega) (fun e => ROWB.out b e.symm rfl)).trans (Below.heap_alloc _ _ _ hbl)
          have ke : w10.heap[eb]? = w2.heap[eb]? := (hg10.block eb (by simp; omega) (fun e => ROWE.out eb e.symm rfl)).trans (Below.heap_alloc _ _ _ hel)
          have hS7 : (fun W : World => W.cell? ⟨b, o + 3, none⟩ = some (.slice A9 n9 c9) ∧ W.cell? ⟨eb, 0, none⟩ = some (.int .i64 n) ∧ W.cell? ⟨eb, 1, none⟩ = some (.slice (some ⟨x, off, none⟩) l.length cap)) w10 := ⟨by rw [World.cell?_of_block (w := w2) kb]; exact cv, by rw [World.cell?_of_block (w := w2) ke]; exact ce0, by rw [World.cell?_of_block (w := w2) ke]; exact ce1⟩
          have f10 : w10.frozen? ⟨b, o + 3, none⟩ = false := by rw [World.frozen?_of_block (w := w2) kb]; exact fz
          have c10 : w10.cell? ⟨b, o + 3, none⟩ = some (.slice A9 n9 c9) := hS7.1
          have FIN10 := Lib.hid (FIN.out _ w10 h10 hg10 hb10)
          have SZ10 : Hid (w2.heap.size ≤ w10.heap.size) := by have h1 := hg10.size; simp at h1; show _ ≤ _; omega
          clear h10 hg10 hb10 kb ke
          refine HKK.out _ _ ⟨Or.inr hS7, ?_⟩
          clear HKK
          change wpSink _ _ _ _ _ _ _ _ (Act.put _ (some 36) _) _
          try simp only [Act.put, List.setIfInBounds_toArray, List.set_cons_zero, List.set_cons_succ]
          refine sink_one (i := 8) (by kernel_rfl) ?_
          refine wpOp_step rfl (fun K' hK => ?_)
          have HKK := Lib.hid hK
          clear hK
          rw [if_pos (by rfl)]
          go_simp
          refine HKK.out _ _ ⟨Or.inr hS7, ?_⟩
          clear HKK
          try simp only [Act.put, List.setIfInBounds_toArray, List.set_cons_zero, List.set_cons_succ]
          refine sink_one (i := 9) (by kernel_rfl) ?_
          refine wpOp_step rfl (fun K' hK => ?_)
          have HKK := Lib.hid hK
          clear hK
          rw [if_pos (by rfl)]
          go_simp
          refine HKK.out _ _ ⟨Or.inr hS7, ?_⟩
          clear HKK
          try simp only [Act.put, List.setIfInBounds_toArray, List.set_cons_zero, List.set_cons_succ]
          refine sink_one (i := 10) (by kernel_rfl) ?_
          refine wpOp_step rfl (fun K' hK => ?_)
          have HKK := Lib.hid hK
          clear hK
          rw [if_pos (by rfl)]
          go_simp
          refine HKK.out _ _ ⟨Or.inl rfl, ?_⟩
          clear HKK
          refine sink_done (by kernel_rfl) ?_
          go_wp2
          (try simp only [Exit.inBlock, Exit.then])
          refine bodyPost_ret (results_none rfl _ _ _) rfl ?_
          obtain ⟨ro', hro', hkp'⟩ := FIN10.out
          have hs1 := SZ10.out
          have hs2 := HKP.out.1
          refine ⟨rfl, _, _, hro'.mono (by omega), ?_, fun g hg hr => ?_⟩
          · have hs3 := W2S.out
            simp [World.setCell]
            omega
          · obtain ⟨r3, r4⟩ := HKP.out.2 g hg hr
            have hs3 := W2S.out
            obtain ⟨r5, r6⟩ := hkp' g (by simp; omega) r3
            exact ⟨r5, r6.trans ((Below.heap_alloc _ _ _ (by show g < w2.heap.size; omega)).trans ((W2K.out g (by omega)).trans r4))⟩
        · have e2 : (s1 == 2) = false := by simpa using h2
          have e3 : (s1 == 3) = false := by simpa using h3
          have HNN := Lib.hid (HNX.out h2 h3)
          have KID := Lib.hid (kid42 TR2.out HKB.out s1 s2 HT.out (by unfold maxLen; omega))
          rw [← HO.out] at KID
          clear h2 h3 HNX HA
          go_wp2_with (first | (go_at_call 99; refine KID.out.mono ?_; rintro e w3 ⟨N, nd', ro', rfl, t1, t2, t3, t4⟩; have T1 := Lib.hid t1; have T2 := Lib.hid t2; have T4 := Lib.hid t4.2; have T5 := Lib.hid t4.1; clear t1 t2 t3 t4))
          go_roundw
          case rel =>
            obtain ⟨r1, r2⟩ := T4.out eb HEL.out HRE.out
            have hk1 := HKP.out.1
            have hk2 := T1.out.size
            refine ⟨k + 1, by omega, by go_num, key ++ [kkO s1 s2], N, nd', ro', ?_, HNN.out, T1.out, T2.out, ⟨?_, fun g hg hr => ?_⟩, r1, r2.trans HEB2.out⟩
            · rw [preK, if_neg (by simp)]
              rfl
            · have hl3 := T5.out
              simp at hl3
              omega
            · obtain ⟨r3, r4⟩ := HKP.out.2 g hg hr
              obtain ⟨r5, r6⟩ := T4.out g (by simp; omega) r3
              exact ⟨r5, r6.trans ((Below.heap_alloc _ _ _ (by omega)).trans r4)⟩
          case measure => simp [intOf]; omega
    · obtain rfl : k = l.length := by omega
      clear hlt
      obtain ⟨m9, va9, vb9, vc9, ⟨y0, y1, y2, y3, y4⟩, hf9, -, r2, r3, r4, hbl⟩ := TR.out.cells HKB.out
      have hel := blk_lt HEB.out
      obtain ⟨v9, hv9⟩ : ∃ v9, v9 = vc9 := ⟨_, rfl⟩
      have ENT := Lib.hid (TR.out.entry (i := 4) (v := v9) (e := ⟨n, .slice A l.length cap, l⟩) HKB.out (by omega) (by rw [hv9]; exact y4) (home_end HH.out) HGE.out)
      have hrow : Row wr B es ro9 key 4 v9 := by rw [hv9]; exact r4
      have cv : wr.cell? ⟨b, o + 4, none⟩ = some v9 := by rw [HO.out, hv9]; exact y4
      have fz : wr.frozen? ⟨b, o + 4, none⟩ = false := hf9 _
      have ce0 : wr.cell? ⟨eb, 0, none⟩ = some (.int .i64 n) := by rw [blk_cell HEB.out]; rfl
      have ce1 : wr.cell? ⟨eb, 1, none⟩ = some (.slice A l.length cap) := by rw [blk_cell HEB.out]; rfl
      have LEN : Hid ((slot En.l es key 4).length ≤ 1000000) := by have h1 : (slot En.l es key 4).length ≤ es.length := List.length_filter_le _ _; have h2 := HES.out; show _ ≤ _; omega
      have TRA := Lib.hid (TR.out.call (((Below.refl _ _).drew).alloc (Nat.le_refl _) (.cells #[.int .i64 n, .slice A l.length cap] 133 (0, 0))))
      have OWN : Hid ((wr.drew.alloc (.cells #[.int .i64 n, .slice A l.length cap] 133 (0, 0))).ownsRow B 133 2 v9 (slot En.l es key 4).length ((slot En.l es key 4).flatMap enC)) := rowV_frame hrow.1 fun g hg => Below.heap_alloc _ _ _ (hrow.1.lt g hg).2
      have FIN : Hid (∀ v' w', World.ownsRow w' B 133 2 v' ((slot En.l es key 4).length + 1) ((slot En.l es key 4).flatMap enC ++ [(⟨n, .slice A l.length cap, l⟩ : En)].flatMap enC) → (wr.drew.alloc (.cells #[.int .i64 n, .slice A l.length cap] 133 (0, 0))).grownBy w' v9.ownBlock → (v'.ownBlock = v9.ownBlock ∨ v'.ownBlock = some (wr.drew.alloc (.cells #[.int .i64 n, .slice A l.length cap] 133 (0, 0))).heap.size) → ∃ ro', Tr B w0 T cnt (es ++ [⟨n, .slice A l.length cap, l⟩]) nd9 ro' (c + l.length) (w'.setCell ⟨b, o + 4, none⟩ v') ∧ ∀ g, g < (wr.drew.alloc (.cells #[.int .i64 n, .slice A l.length cap] 133 (0, 0))).heap.size → ro9 g = none → ro' g = none ∧ (w'.setCell ⟨b, o + 4, none⟩ v').heap[g]? = (wr.drew.alloc (.cells #[.int .i64 n, .slice A l.length cap] 133 (0, 0))).heap[g]?) := by
        have e3 : (wr.drew.alloc (.cells #[.int .i64 n, .slice A l.length cap] 133 (0, 0))).cell? ⟨b, (preK cnt key).length + 4, none⟩ = some v9 := by rw [World.cell?_of_block (w := wr) (Below.heap_alloc wr.drew _ b hbl), ← HO.out]; exact cv
        have e4 := (TRA.out.entry (i := 4) (v := v9) (e := ⟨n, .slice A l.length cap, l⟩) HKB.out (by omega) e3 (home_end HH.out) HGE.out).2
        rw [← HO.out] at e4
        intro v' w' q1 q2 q3
        exact e4 v' w' (by simpa using q1) q2 q3
      have ROWB : Hid (∀ g, v9.ownBlock = some g → g ≠ b) := fun g hg e => by have h1 := hrow.2 g hg; have h2 := HRB.out; rw [e, h2] at h1; simp at h1
      have ROWE : Hid (∀ g, v9.ownBlock = some g → g ≠ eb) := fun g hg e => by have h1 := hrow.2 g hg; rw [e, HRE.out] at h1; cases h1
      obtain ⟨A9, n9, c9, hA9⟩ : ∃ A9 n9 c9, v9 = .slice A9 n9 c9 := by
        rcases hrow.1.2 with ⟨e, _⟩ | ⟨g, cp, _, e, _⟩
        · exact ⟨_, _, _, e⟩
        · exact ⟨_, _, _, e⟩
      clear hrow hf9 r2 r3 r4 y0 y1 y2 y3 y4 hv9 ENT TRA
      subst hA9
      go_wp2_with fail
      have hS0 : (fun W : World => W.cell? ⟨b, o + 4, none⟩ = some (.slice A9 n9 c9) ∧ W.cell? ⟨eb, 0, none⟩ = some (.int .i64 n) ∧ W.cell? ⟨eb, 1, none⟩ = some (.slice A l.length cap)) wr.drew := ⟨cv, ce0, ce1⟩
      refine wp_region_sink (S := (fun W : World => W.cell? ⟨b, o + 4, none⟩ = some (.slice A9 n9 c9) ∧ W.cell? ⟨eb, 0, none⟩ = some (.int .i64 n) ∧ W.cell? ⟨eb, 1, none⟩ = some (.slice A l.length cap))) (n := 10) (by kernel_rfl) ?_
      change wpSink _ _ _ _ _ 10 11 _ _ _
      refine sink_take2 (i := 0) (d := some 43) (v := ?_) rfl rfl (by kernel_rfl) (by kernel_rfl) (by kernel_rfl) (by kernel_rfl) (fun _ _ _ h => h) (Or.inl ⟨by rfl, ?_⟩) hS0 ?_
      rotate_left
      · intro wz hSw
        (try dsimp only at hSw)
        obtain ⟨g1, g2, g3⟩ := hSw
        go_simp
        (try with_reducible rfl)
      try simp only [Act.put, List.setIfInBounds_toArray, List.set_cons_zero, List.set_cons_succ]
      refine sink_take2 (i := 1) (d := some 44) (v := ?_) rfl rfl (by kernel_rfl) (by kernel_rfl) (by kernel_rfl) (by kernel_rfl) (fun _ _ _ h => h) (Or.inl ⟨by rfl, ?_⟩) hS0 ?_
      rotate_left
      · intro wz hSw
        (try dsimp only at hSw)
        obtain ⟨g1, g2, g3⟩ := hSw
        go_simp
        (try with_reducible rfl)
      try simp only [Act.put, List.setIfInBounds_toArray, List.set_cons_zero, List.set_cons_succ]
      refine sink_take2 (i := 2) (d := some 45) (v := ?_) rfl rfl (by kernel_rfl) (by kernel_rfl) (by kernel_rfl) (by kernel_rfl) (fun _ _ _ h => h) (Or.inl ⟨by rfl, ?_⟩) hS0 ?_
      rotate_left
      · intro wz hSw
        (try dsimp only at hSw)
        obtain ⟨g1, g2, g3⟩ := hSw
        go_simp
        (try with_reducible rfl)
      try simp only [Act.put, List.setIfInBounds_toArray, List.set_cons_zero, List.set_cons_succ]
      refine sink_take2 (i := 3) (d := some 46) (v := ?_) rfl rfl (by kernel_rfl) (by kernel_rfl) (by kernel_rfl) (by kernel_rfl) (fun _ _ _ h => h) (Or.inl ⟨by rfl, ?_⟩) hS0 ?_
      rotate_left
      · intro wz hSw
        (try dsimp only at hSw)
        obtain ⟨g1, g2, g3⟩ := hSw
        go_simp
        (try with_reducible rfl)
      try simp only [Act.put, List.setIfInBounds_toArray, List.set_cons_zero, List.set_cons_succ]
      refine sink_take2 (i := 4) (d := some 47) (v := ?_) rfl rfl (by kernel_rfl) (by kernel_rfl) (by kernel_rfl) (by kernel_rfl) (fun _ _ _ h => h) (Or.inl ⟨by rfl, ?_⟩) hS0 ?_
      rotate_left
      · intro wz hSw
        (try dsimp only at hSw)
        obtain ⟨g1, g2, g3⟩ := hSw
        go_simp
        (try with_reducible rfl)
      try simp only [Act.put, List.setIfInBounds_toArray, List.set_cons_zero, List.set_cons_succ]
      refine sink_take2 (i := 5) (d := some 48) (v := ?_) rfl rfl (by kernel_rfl) (by kernel_rfl) (by kernel_rfl) (by kernel_rfl) (fun _ _ _ h => h) (Or.inl ⟨by rfl, ?_⟩) hS0 ?_
      rotate_left
      · intro wz hSw
        (try dsimp only at hSw)
        obtain ⟨g1, g2, g3⟩ := hSw
        go_simp
        (try with_reducible rfl)
      try simp only [Act.put, List.setIfInBounds_toArray, List.set_cons_zero, List.set_cons_succ]
      refine sink_one (i := 6) (by kernel_rfl) ?_
      refine wpOp_step rfl (fun K' hK => ?_)
      have HKK := Lib.hid hK
      clear hK
      rw [if_pos (by rfl)]
      go_simp
      have hS6 : (fun W : World => W.cell? ⟨b, o + 4, none⟩ = some (.slice A9 n9 c9) ∧ W.cell? ⟨eb, 0, none⟩ = some (.int .i64 n) ∧ W.cell? ⟨eb, 1, none⟩ = some (.slice A l.length cap)) (wr.drew.alloc (.cells #[.int .i64 n, .slice A l.length cap] 133 (0, 0))) := ⟨by rw [World.cell?_of_block (w := wr) (Below.heap_alloc wr.drew _ b hbl)]; exact cv, by rw [World.cell?_of_block (w := wr) (Below.heap_alloc wr.drew _ eb hel)]; exact ce0, by rw [World.cell?_of_block (w := wr) (Below.heap_alloc wr.drew _ eb hel)]; exact ce1⟩
      refine HKK.out _ _ ⟨Or.inr hS6, ?_⟩
      clear HKK
      try simp only [Act.put, List.setIfInBounds_toArray, List.set_cons_zero, List.set_cons_succ]
      refine sink_one (i := 7) (by kernel_rfl) ?_
      refine wpOp_step rfl (fun K' hK => ?_)
      have HKK := Lib.hid hK
      clear hK
      rw [if_pos (by rfl)]
      refine wp_appE (wr.drew.alloc (.cells #[.int .i64 n, .slice A l.length cap] 133 (0, 0))) (.tmp 47) (.tmp 49) rfl B (.slice A9 n9 c9) _ _ rfl (OWN.out) LEN.out (by have := TR.out.size; simp; omega) (some ⟨wr.heap.size, 0, none⟩) 1 1 [⟨n, .slice A l.length cap, l⟩] rfl rfl (by omega) (fun e => by cases e) (fun e he => by simp at he; subst he; rfl) (fun ad e => by cases e; exact World.news_of_block (blk_new wr.drew _)) ?_
      intro v10 w10 h10 hg10 hb10
      obtain ⟨A10, n10, c10, rfl⟩ := own_shape h10
      have hbw : b ≠ eb := HBE.out
      have kb : w10.heap[b]? = wr.heap[b]? := (hg10.block b (by simp; omega) (fun e => ROWB.out b e.symm rfl)).trans (Below.heap_alloc _ _ _ hbl)
      have ke : w10.heap[eb]? = wr.heap[eb]? := (hg10.block eb (by simp; omega) (fun e => ROWE.out eb e.symm rfl)).trans (Below.heap_alloc _ _ _ hel)
      have hS7 : (fun W : World => W.cell? ⟨b, o + 4, none⟩ = some (.slice A9 n9 c9) ∧ W.cell? ⟨eb, 0, none⟩ = some (.int .i64 n) ∧ W.cell? ⟨eb, 1, none⟩ = some (.slice A l.length cap)) w10 := ⟨by rw [World.cell?_of_block (w := wr) kb]; exact cv, by rw [World.cell?_of_block (w := wr) ke]; exact ce0, by rw [World.cell?_of_block (w := wr) ke]; exact ce1⟩
      have f10 : w10.frozen? ⟨b, o + 4, none⟩ = false := by rw [World.frozen?_of_block (w := wr) kb]; exact fz
      have c10 : w10.cell? ⟨b, o + 4, none⟩ = some (.slice A9 n9 c9) := hS7.1
      have FIN10 := Lib.hid (FIN.out _ w10 h10 hg10 hb10)
      have SZ10 : Hid (wr.heap.size ≤ w10.heap.size) := by have h1 := hg10.size; simp at h1; show _ ≤ _; omega
      clear h10 hg10 hb10 kb ke
      refine HKK.out _ _ ⟨Or.inr hS7, ?_⟩
      clear HKK
      change wpSink _ _ _ _ _ _ _ _ (Act.put _ (some 50) _) _
      try simp only [Act.put, List.setIfInBounds_toArray, List.set_cons_zero, List.set_cons_succ]
      refine sink_one (i := 8) (by kernel_rfl) ?_
      refine wpOp_step rfl (fun K' hK => ?_)
      have HKK := Lib.hid hK
      clear hK
      rw [if_pos (by rfl)]
      go_simp
      refine HKK.out _ _ ⟨Or.inr hS7, ?_⟩
      clear HKK
      try simp only [Act.put, List.setIfInBounds_toArray, List.set_cons_zero, List.set_cons_succ]
      refine sink_one (i := 9) (by kernel_rfl) ?_
      refine wpOp_step rfl (fun K' hK => ?_)
      have HKK := Lib.hid hK
      clear hK
      rw [if_pos (by rfl)]
      go_simp
      refine HKK.out _ _ ⟨Or.inr hS7, ?_⟩
      clear HKK
      try simp only [Act.put, List.setIfInBounds_toArray, List.set_cons_zero, List.set_cons_succ]
      refine sink_one (i := 10) (by kernel_rfl) ?_
      refine wpOp_step rfl (fun K' hK => ?_)
      have HKK := Lib.hid hK
      clear hK
      rw [if_pos (by rfl)]
      go_simp
      refine HKK.out _ _ ⟨Or.inl rfl, ?_⟩
      clear HKK
      refine sink_done (by kernel_rfl) ?_
      go_wp2
      go_end0
      obtain ⟨ro', hro', hkp'⟩ := FIN10.out
      have hs1 := SZ10.out
      have hs2 := HKP.out.1
      refine ⟨rfl, _, _, hro', by simp [World.setCell]; omega, fun g hg hr => ?_⟩
      obtain ⟨r3, r4⟩ := HKP.out.2 g hg hr
      obtain ⟨r5, r6⟩ := hkp' g (by simp; omega) r3
      exact ⟨r5, r6.trans ((Below.heap_alloc _ _ _ (by show g < wr.heap.size; omega)).trans r4)⟩
end
end Go.Proofs.YthigandmemifoaaGreatDoor
