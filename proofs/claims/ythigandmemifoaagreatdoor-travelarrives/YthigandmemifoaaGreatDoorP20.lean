/-
  Put together: Wlk.
-/
import Derived.Test.YthigandmemifoaaGreatDoorP19
import Derived.Test.YthigandmemifoaaGreatDoorP13
namespace Go.Proofs.YthigandmemifoaaGreatDoor
open Go.RowKit Go.PlainAid
set_option maxRecDepth 100000
/-- entries in a row of the call's own -/
def OwnE (F : Nat) (wF : World) (v : Value) (xs : List En) (w : World) : Prop := w.ownsRow F 133 2 v xs.length (xs.flatMap enC) ∧ Below F wF w ∧ F ≤ w.heap.size
theorem OwnE.shape {F : Nat} {wF : World} {v : Value} {xs : List En} {w : World} (h : OwnE F wF v xs w) : ∃ A n c, v = .slice A n c := own_shape h.1
theorem OwnE.drew {F : Nat} {wF : World} {v : Value} {xs : List En} {w : World} (h : OwnE F wF v xs w) : OwnE F wF v xs w.drew := ⟨h.1.drew, h.2.1.drew, h.2.2⟩
theorem nilE (F : Nat) (wF w : World) (hb : Below F wF w) (hB : F ≤ w.heap.size) : OwnE F wF (.slice none 0 0) [] w := ⟨World.ownsRow_nil _ _ _ _, hb, hB⟩
/-- append(v, x...), x a row -/
theorem wpList_cat {ops : Array Oper} {rest : List Oper} {o : Oper} {a : Act} {Q : Exit → Act → World → Prop} (w : World) (hgd : o.guard = none) (s x : Operand)
    (ho : o.op = .call { callee := .builtin .append, args := #[s, x], argTypes := #[125, 125] })
    (F : Nat) (wF : World) (v : Value) (xs : List En) (hs : a.eval s = v) (hown : OwnE F wF v xs w) (B : Nat) (rv : Value) (ys : List En) (hx : a.eval x = rv) (hsrc : w.ownsRow B 133 2 rv ys.length (ys.flatMap enC))
    (hlen : xs.length + ys.length ≤ 1000000) (hone : ∀ e ∈ ys, e.u.oneCell' = true)
    (h : ∀ v' w', OwnE F wF v' (xs ++ ys) w' → wpList Tryz.prog ops Q rest (a.put o.dst v') w') : wpList Tryz.prog ops Q (o :: rest) a w := by
  have hcells := @World.ownsRow.cells _ _ _ _ _ _ _ hsrc
  obtain ⟨A, c, hrv, hA, hb⟩ : ∃ A c, rv = .slice A ys.length c ∧ (A = none → ys.length = 0 ∧ c = 0) ∧ ∀ ad, A = some ad → ∀ j u, (ys.flatMap enC)[j]? = some u → w.cell? (ad.add j) = some u := by
    rcases hsrc.2 with ⟨e, h0⟩ | ⟨g, cp, cur, e, _, hk, _, _, _, ht⟩
    · exact ⟨none, 0, by rw [h0]; exact e, fun _ => ⟨h0, rfl⟩, fun ad e => by cases e⟩
    · refine ⟨some ⟨g, 0, none⟩, cp, e, (fun e => by cases e), fun ad e' j u hu => ?_⟩
      subst e
      cases e'
      exact hcells rfl j u hu
  subst hrv
  refine wpList_plain hgd fun _ hK => wp_appE w s x ho F v xs.length _ hs hown.1 (by omega) hown.2.2 A ys.length c ys hx rfl (by omega) hA hone hb fun v' w' h1 h2 h3 => hK _ _ (h v' w' ⟨?_, ?_, ?_⟩)
  · rw [List.length_append, List.flatMap_append]
    exact h1
  · exact hown.2.1.grown h2 hown.2.2 (fun k hk => (hown.1.lt k hk).1)
  · have := h2.size
    have := hown.2.2
    omega
theorem mapK_look {w : World} {nd : Key → Option Nat} {ro : Nat → Option (Key × Nat)} {c : Nat} {key : Key} {m : Option Nat} (h : MapK w nd ro c key m) (s : ByteArray) (hs : s.size ≤ maxLen) :
    (Instr.lookup 123 (.map m) (.string s) false).run Tryz.prog w = .ok (pOf (nd (key ++ [some s]))) w := by
  cases m with
  | none =>
    rw [h s]
    exact look_nil w s
  | some mb => exact h.2.look s hs
theorem Tr.oneC {B : Nat} {w0 : World} {T cnt : Nat} {es : List En} {nd : Key → Option Nat} {ro : Nat → Option (Key × Nat)} {c : Nat} {w : World} (h : Tr B w0 T cnt es nd ro c w) : ∀ e ∈ es, e.u.oneCell' = true := by
  intro e he
  obtain ⟨A, n, c', hs⟩ := (h.ent e he).shape
  rw [hs]
  rfl
theorem slot_sub {es : List En} {key : Key} {i : Nat} {p : En → Prop} (h : ∀ e ∈ es, p e) : ∀ e ∈ slot En.l es key i, p e := fun e he => h e ((mem_slot _).1 he).1
/-- a node's cells, whatever comes behind -/
def Fix (B cnt : Nat) (es : List En) (nd : Key → Option Nat) (ro : Nat → Option (Key × Nat)) (c : Nat) (key : Key) (b : Nat) (m : Option Nat) (v2 v3 v4 : Value) (W : World) : Prop :=
  W.cell? ⟨b, (preK cnt key).length, none⟩ = some (.map m) ∧ W.cell? ⟨b, (preK cnt key).length + 1, none⟩ = some (pOf (nd (key ++ [none]))) ∧ W.cell? ⟨b, (preK cnt key).length + 2, none⟩ = some v2 ∧ W.cell? ⟨b, (preK cnt key).length + 3, none⟩ = some v3 ∧ W.cell? ⟨b, (preK cnt key).length + 4, none⟩ = some v4
    ∧ MapK W nd ro c key m ∧ Row W B es ro key 2 v2 ∧ Row W B es ro key 3 v3 ∧ Row W B es ro key 4 v4
theorem Tr.fix {B : Nat} {w0 : World} {T cnt : Nat} {es : List En} {nd : Key → Option Nat} {ro : Nat → Option (Key × Nat)} {c : Nat} {wF : World} (h : Tr B w0 T cnt es nd ro c wF) {key : Key} {b : Nat} (hk : nd key = some b) :
    ∃ m A2 n2 k2 A3 n3 k3 A4 n4 k4, ∀ W, Below wF.heap.size wF W → Fix B cnt es nd ro c key b m (.slice A2 n2 k2) (.slice A3 n3 k3) (.slice A4 n4 k4) W := by
  obtain ⟨m, va, vb, vc, ty, h1, h2, h3, h4, h5, h6⟩ := h.node _ _ hk
  obtain ⟨A2, n2, k2, rfl⟩ := own_shape h4.1
  obtain ⟨A3, n3, k3, rfl⟩ := own_shape h5.1
  obtain ⟨A4, n4, k4, rfl⟩ := own_shape h6.1
  refine ⟨m, A2, n2, k2, A3, n3, k3, A4, n4, k4, fun W hW => ?_⟩
  have g := ndC_get cnt key (.map m) (pOf (nd (key ++ [none]))) (.slice A2 n2 k2) (.slice A3 n3 k3) (.slice A4 n4 k4)
  have hb := (hW.block b (blk_lt h1)).trans h1
  have hf : ∀ g i, ro g = some (key, i) → W.heap[g]? = wF.heap[g]? := fun g i hg => hW.block g (h.fresh _ _ hg).2
  refine ⟨?_, ?_, ?_, ?_, ?_, h3.frame hf (fun _ => rfl) (fun _ _ h => h) (Nat.le_refl _), h4.frame hf (fun _ _ h => h) rfl, h5.frame hf (fun _ _ h => h) rfl, h6.frame hf (fun _ _ h => h) rfl⟩
  · rw [blk_cell hb]; exact g.1
  · rw [blk_cell hb]; exact g.2.1
  · rw [blk_cell hb]; exact g.2.2.1
  · rw [blk_cell hb]; exact g.2.2.2.1
  · rw [blk_cell hb]; exact g.2.2.2.2
theorem Tr.clos_all {B : Nat} {w0 : World} {T cnt : Nat} {es : List En} {nd : Key → Option Nat} {ro : Nat → Option (Key × Nat)} {c : Nat} {w : World} (h : Tr B w0 T cnt es nd ro c w) {key : Key} (hn : nd key = none) (z : Key) : nd (key ++ z) = none := by
  induction z generalizing key with
  | nil => rw [List.append_nil]; exact hn
  | cons x z ih =>
    have := ih (h.clos key x hn)
    rw [List.append_assoc] at this
    exact this
/-- what walk comes to -/
def WalkPost (F : Nat) (wF : World) (xs : List En) (e : Ending) (w' : World) : Prop := ∃ v', e = .returned v' ∧ OwnE F wF v' xs w'
section
variable {wF w0 : World} {B T cnt : Nat} {es : List En} {nd : Key → Option Nat} {ro : Nat → Option (Key × Nat)} {c : Nat}
set_option maxHeartbeats 3200000 in
theorem walk_nil (h : Tr B w0 T cnt es nd ro c wF) {key : Key} {b : Nat} (hk : nd key = some b) (A : Option Addr) (cap : Nat) (v : Value) (xs : List En) (w : World) (hown : OwnE wF.heap.size wF v xs w) (hlen : xs.length + (wlk En.l es key []).length ≤ 1000000) :
    Calls Tryz.prog 83 #[.pointer (some ⟨b, (preK cnt key).length, none⟩), .slice A 0 cap, v] w (WalkPost wF.heap.size wF (xs ++ wlk En.l es key [])) := by
  obtain ⟨m, A2, n2, k2, A3, n3, k3, A4, n4, k4, hfix⟩ := h.fix hk
  have FX := Lib.hid hfix
  have ONE2 := Lib.hid (slot_sub (key := key) (i := 2) h.oneC)
  have ONE3 := Lib.hid (slot_sub (key := key) (i := 3) h.oneC)
  have ONE4 := Lib.hid (slot_sub (key := key) (i := 4) h.oneC)
  clear hfix
  rw [wlk] at hlen ⊢
  simp only [List.length_append] at hlen
  obtain ⟨-, -, y2, -, -, -, q2, -, -⟩ := FX.out w hown.2.1
  have R2 := Lib.hid q2
  have HOWN := Lib.hid hown
  obtain ⟨Av, nv, cv, rfl⟩ := hown.shape
  obtain ⟨o, ho⟩ : ∃ o, o = (preK cnt key).length := ⟨_, rfl⟩
  have HO := Lib.hid ho
  rw [← ho] at y2 ⊢
  clear h hown q2 ho
  go_enter Tryz.func83, Tryz.ntmps83
  go_wp2_with (first | (at_builtin; refine wpList_cat w rfl (.tmp 42) (.tmp 46) rfl wF.heap.size wF _ xs rfl HOWN.out B _ (slot En.l es key 2) rfl R2.out.1 (by (try simp only [List.length_append]); omega) ONE2.out ?_; intro v5 w5 h5; have H5 := Lib.hid h5; obtain ⟨A5, n5, c5, rfl⟩ := h5.shape; obtain ⟨-, -, -, y3, -, -, -, q3, -⟩ := FX.out w5 h5.2.1; rw [← HO.out] at y3; have Q3 := Lib.hid q3; clear h5 q3) | (at_builtin; refine wpList_cat w5 rfl (.tmp 48) (.tmp 52) rfl wF.heap.size wF _ (xs ++ slot En.l es key 2) rfl H5.out B _ (slot En.l es key 3) rfl Q3.out.1 (by (try simp only [List.length_append]); omega) ONE3.out ?_; intro v6 w6 h6; have H6 := Lib.hid h6; obtain ⟨A6, n6, c6, rfl⟩ := h6.shape; obtain ⟨-, -, -, -, y4, -, -, -, q4⟩ := FX.out w6 h6.2.1; rw [← HO.out] at y4; have Q4 := Lib.hid q4; clear h6 q4) | (at_builtin; refine wpList_cat w6 rfl (.tmp 57) (.tmp 61) rfl wF.heap.size wF _ (xs ++ slot En.l es key 2 ++ slot En.l es key 3) rfl H6.out B _ (slot En.l es key 4) rfl Q4.out.1 (by (try simp only [List.length_append]); omega) ONE4.out ?_; intro v7 w7 h7; have H7 := Lib.hid h7; obtain ⟨A7, n7, c7, rfl⟩ := h7.shape; clear h7))
  go_ret
  refine ⟨_, rfl, ?_⟩
  have := H7.out
  simp only [List.append_assoc] at this
  exact this

set_option maxHeartbeats 6400000 in
theorem walk_cons (h : Tr B w0 T cnt es nd ro c wF) (s : ByteArray) (r : List ByteArray) (hs : s.size ≤ maxLen)
    (ih : ∀ (key : Key) (b : Nat), nd key = some b → ∀ (pv v : Value) (xs : List En) (w : World), Ss wF pv r → OwnE wF.heap.size wF v xs w → xs.length + (wlk En.l es key r).length ≤ 1000000 →
      Calls Tryz.prog 83 #[.pointer (some ⟨b, (preK cnt key).length, none⟩), pv, v] w (WalkPost wF.heap.size wF (xs ++ wlk En.l es key r)))
    {key : Key} {b : Nat} (hk : nd key = some b) (A : Option Addr) (n cap : Nat) (hp : Ss wF (.slice A n cap) (s :: r)) (v : Value) (xs : List En) (w : World) (hown : OwnE wF.heap.size wF v xs w) (hlen : xs.length + (wlk En.l es key (s :: r)).length ≤ 1000000) :
    Calls Tryz.prog 83 #[.pointer (some ⟨b, (preK cnt key).length, none⟩), .slice A n cap, v] w (WalkPost wF.heap.size wF (xs ++ wlk En.l es key (s :: r))) := by
  obtain ⟨m, A2, n2, k2, A3, n3, k3, A4, n4, k4, hfix⟩ := h.fix hk
  have FX := Lib.hid hfix
  have ONE2 := Lib.hid (slot_sub (key := key) (i := 2) h.oneC)
  have ONE3 := Lib.hid (slot_sub (key := key) (i := 3) h.oneC)
  have ONE4 := Lib.hid (slot_sub (key := key) (i := 4) h.oneC)
  clear hfix
  have SR := Lib.hid (hp.rest 1 (by simp))
  obtain ⟨A', cap', e', hcap, -, hcc⟩ := hp
  simp only [Value.slice.injEq] at e'
  obtain ⟨rfl, e2, rfl⟩ := e'
  obtain ⟨pb, po, rfl, hz⟩ := hcc 0 (by simp)
  simp only [List.length_cons] at e2 hcap
  subst e2
  have hz : wF.cell? ⟨pb, po, none⟩ = some (.string s) := hz
  have z0 : w.cell? ⟨pb, po, none⟩ = some (.string s) := by
    rw [hown.2.1.cell (World.block_lt_of_cell? _ _ hz)]
    exact hz
  clear hz hcc
  obtain ⟨L, hL⟩ : ∃ L, L = xs ++ wlk En.l es key (s :: r) := ⟨_, rfl⟩
  rw [← hL]
  have HL := Lib.hid hL
  clear hL
  rw [wlk] at hlen HL
  simp only [List.length_append] at hlen
  have HLEN := Lib.hid hlen
  have l1 : xs.length + (wlk En.l es (key ++ [some s]) r).length ≤ 1000000 := by omega
  have l2 : xs.length + (wlk En.l es (key ++ [some s]) r).length + (wlk En.l es (key ++ [none]) r).length ≤ 1000000 := by omega
  have l4 : xs.length + (wlk En.l es (key ++ [some s]) r).length + (wlk En.l es (key ++ [none]) r).length + (slot En.l es key 3).length ≤ 1000000 := by omega
  have L5 : Hid (r = [] → xs.length + (wlk En.l es (key ++ [some s]) r).length + (wlk En.l es (key ++ [none]) r).length + (slot En.l es key 2).length + (slot En.l es key 3).length ≤ 1000000) := fun hr => by
    rw [if_pos hr] at hlen
    omega
  clear hlen
  obtain ⟨y0, y1, y2, y3, -, xm, q2, q3, -⟩ := FX.out w hown.2.1
  have LK := Lib.hid (mapK_look (w := w.drew) xm s hs)
  have R2 := Lib.hid q2
  have Q3 := Lib.hid q3
  have HOWN := Lib.hid hown
  obtain ⟨Av, nv, cv, rfl⟩ := hown.shape
  obtain ⟨o, ho⟩ : ∃ o, o = (preK cnt key).length := ⟨_, rfl⟩
  have HO := Lib.hid ho
  rw [← ho] at y0 y1 y2 y3 ⊢
  have PK : ∀ x, (preK cnt (key ++ [x])).length = 0 := fun x => by rw [preK, if_neg (by simp)]; rfl
  have IHS := Lib.hid (fun N hN => ih (key ++ [some s]) N hN)
  have IHN := Lib.hid (fun N hN => ih (key ++ [none]) N hN)
  rw [PK] at IHS IHN
  have NS : Hid (nd (key ++ [some s]) = none → wlk En.l es (key ++ [some s]) r = []) := fun hn => wlk_none _ fun e he hpre => by
    obtain ⟨z, hz⟩ := hpre
    have := h.cov e he
    rw [← hz] at this
    exact this (h.clos_all hn z)
  have NN : Hid (nd (key ++ [none]) = none → wlk En.l es (key ++ [none]) r = []) := fun hn => wlk_none _ fun e he hpre => by
    obtain ⟨z, hz⟩ := hpre
    have := h.cov e he
    rw [← hz] at this
    exact this (h.clos_all hn z)
  have d0 : (0 : Int) < (r.length : Int) + 1 := by omega
  have d1 : (1 : Int) ≤ (r.length : Int) + 1 := by omega
  have d2 : (r.length : Int) + 1 ≤ (cap : Int) := by omega
  have d3 : r.length + 1 ≤ cap := hcap
  have d4 : (1 : Int) ≤ (cap : Int) := by omega
  have d5 : 1 ≤ cap := by omega
  obtain ⟨AX, hAX⟩ : ∃ AX, (if cap = 1 then (some ⟨pb, po, none⟩ : Option Addr) else some ⟨pb, po + 1, none⟩) = AX := ⟨_, rfl⟩
  have SX : Hid (Ss wF (.slice AX r.length (cap - 1)) r) := by
    have := SR.out
    simp only [Option.map_some, Addr.add_lit, List.length_cons, Nat.add_sub_cancel, List.drop_succ_cons, List.drop_zero] at this
    rw [hAX] at this
    exact this
  clear h hown q2 q3 ho xm ih PK
  clear y2 y3 R2 Q3 HLEN
  rcases hnS : nd (key ++ [some s]) with _ | N1
  · rw [hnS] at LK
    have LK : Hid ((Instr.lookup 123 (.map m) (.string s) false).run Tryz.prog w.drew = .ok (.pointer none) w.drew) := LK.out
    have H3 : Hid (OwnE wF.heap.size wF (.slice Av nv cv) (xs ++ wlk En.l es (key ++ [some s]) r) w.drew) := by
      have h9 := HOWN.out.drew
      rw [NS.out hnS]
      rw [List.append_nil]
      exact h9
    go_enter Tryz.func83, Tryz.ntmps83
    go_wp2_with fail
    have hS0 : (fun W : World => W.cell? ⟨b, o, none⟩ = some (.map m) ∧ W.cell? ⟨pb, po, none⟩ = some (.string s) ∧ (Instr.lookup 123 (.map m) (.string s) false).run Tryz.prog W = .ok (.pointer none) W) w.drew := ⟨y0, z0, LK.out⟩
    refine wp_region_sink (S := (fun W : World => W.cell? ⟨b, o, none⟩ = some (.map m) ∧ W.cell? ⟨pb, po, none⟩ = some (.string s) ∧ (Instr.lookup 123 (.map m) (.string s) false).run Tryz.prog W = .ok (.pointer none) W)) (n := 1000) (by kernel_rfl) ?_
    change wpSink _ _ _ _ _ 1000 9 _ _ _
    refine sink_take1 (i := 0) (d := some 11) (v := ?_) rfl rfl (by kernel_rfl) (by decide) (by kernel_rfl) (by kernel_rfl) (fun _ _ _ h => h) (Or.inl ⟨by rfl, ?_⟩) hS0 ?_
    rotate_left
    · intro wz hSw
      (try dsimp only at hSw)
      obtain ⟨g1, g2, g3⟩ := hSw
      go_simp
      (try with_reducible rfl)
    try simp only [Act.put, List.setIfInBounds_toArray, List.set_cons_zero, List.set_cons_succ]
    refine sink_take1 (i := 1) (d := some 12) (v := ?_) rfl rfl (by kernel_rfl) (by decide) (by kernel_rfl) (by kernel_rfl) (fun _ _ _ h => h) (Or.inl ⟨by rfl, ?_⟩) hS0 ?_
    rotate_left
    · intro wz hSw
      (try dsimp only at hSw)
      obtain ⟨g1, g2, g3⟩ := hSw
      go_simp
      (try with_reducible rfl)
    try simp only [Act.put, List.setIfInBounds_toArray, List.set_cons_zero, List.set_cons_succ]
    refine sink_take1 (i := 2) (d := some 13) (v := ?_) rfl rfl (by kernel_rfl) (by decide) (by kernel_rfl) (by kernel_rfl) (fun _ _ _ h => h) (Or.inl ⟨by rfl, ?_⟩) hS0 ?_
    rotate_left
    · intro wz hSw
      (try dsimp only at hSw)
      obtain ⟨g1, g2, g3⟩ := hSw
      go_simp
      (try with_reducible rfl)
    try simp only [Act.put, List.setIfInBounds_toArray, List.set_cons_zero, List.set_cons_succ]
    refine sink_take1 (i := 3) (d := some 14) (v := ?_) rfl rfl (by kernel_rfl) (by decide) (by kernel_rfl) (by kernel_rfl) (fun _ _ _ h => h) (Or.inl ⟨by rfl, ?_⟩) hS0 ?_
    rotate_left
    · intro wz hSw
      (try dsimp only at hSw)
      obtain ⟨g1, g2, g3⟩ := hSw
      go_simp
      (try with_reducible rfl)
    try simp only [Act.put, List.setIfInBounds_toArray, List.set_cons_zero, List.set_cons_succ]
    refine sink_take1 (i := 4) (d := some 15) (v := ?_) rfl rfl (by kernel_rfl) (by decide) (by kernel_rfl) (by kernel_rfl) (fun _ _ _ h => h) (Or.inl ⟨by rfl, ?_⟩) hS0 ?_
    rotate_left
    · intro wz hSw
      (try dsimp only at hSw)
      obtain ⟨g1, g2, g3⟩ := hSw
      go_simp
      (try with_reducible rfl)
    try simp only [Act.put, List.setIfInBounds_toArray, List.set_cons_zero, List.set_cons_succ]
    refine sink_take1 (i := 5) (d := some 16) (v := ?_) rfl rfl (by kernel_rfl) (by decide) (by kernel_rfl) (by kernel_rfl) (fun _ _ _ h => h) (Or.inl ⟨by rfl, ?_⟩) hS0 ?_
    rotate_left
    · intro wz hSw
      (try dsimp only at hSw)
      obtain ⟨g1, g2, g3⟩ := hSw
      go_simp
      (try with_reducible rfl)
    try simp only [Act.put, List.setIfInBounds_toArray, List.set_cons_zero, List.set_cons_succ]
    refine sink_take1 (i := 6) (d := some 17) (v := ?_) rfl rfl (by kernel_rfl) (by decide) (by kernel_rfl) (by kernel_rfl) (fun _ _ _ h => h) (Or.inl ⟨by rfl, ?_⟩) hS0 ?_
    rotate_left
    · intro wz hSw
      (try dsimp only at hSw)
      obtain ⟨g1, g2, g3⟩ := hSw
      go_simp
      (try with_reducible rfl)
    try simp only [Act.put, List.setIfInBounds_toArray, List.set_cons_zero, List.set_cons_succ]
    refine sink_take1 (i := 7) (d := some 18) (v := ?_) rfl rfl (by kernel_rfl) (by decide) (by kernel_rfl) (by kernel_rfl) (fun _ _ _ h => h) (Or.inl ⟨by rfl, ?_⟩) hS0 ?_
    rotate_left
    · intro wz hSw
      (try dsimp only at hSw)
      obtain ⟨g1, g2, g3⟩ := hSw
      go_simp
      (try with_reducible rfl)
    try simp only [Act.put, List.setIfInBounds_toArray, List.set_cons_zero, List.set_cons_succ]
    refine sink_take1 (i := 8) (d := some 7) (v := ?_) rfl rfl (by kernel_rfl) (by decide) (by kernel_rfl) (by kernel_rfl) (fun _ _ _ h => h) (Or.inl ⟨by rfl, ?_⟩) hS0 ?_
    rotate_left
    · intro wz hSw
      (try dsimp only at hSw)
      obtain ⟨g1, g2, g3⟩ := hSw
      go_simp
      (try with_reducible rfl)
    try simp only [Act.put, List.setIfInBounds_toArray, List.set_cons_zero, List.set_cons_succ]
    refine sink_done (by kernel_rfl) ?_
    clear hS0 y1
    rcases hnN : nd (key ++ [none]) with _ | N2
    · obtain ⟨-, y9, -⟩ := FX.out w.drew H3.out.2.1
      rw [← HO.out, hnN] at y9
      have y1 : w.drew.cell? ⟨b, o + 1, none⟩ = some (.pointer none) := y9
      clear y9
      have H4 : Hid (OwnE wF.heap.size wF (.slice Av nv cv) (xs ++ wlk En.l es (key ++ [some s]) r ++ wlk En.l es (key ++ [none]) r) w.drew) := by
        have h9 := H3.out
        rw [NN.out hnN]
        rw [List.append_nil]
        exact h9
      by_cases hr : r = []
      · have l5 := L5.out hr
        have HR := Lib.hid hr
        have dC : (r.length : Int) + 1 ≤ 1 := by rw [hr]; simp
        have dD : ((r.length : Int) + 1 == 0) = false := by simp; omega
        obtain ⟨-, -, y2, -, -, -, q2, -, -⟩ := FX.out w.drew H4.out.2.1
        rw [← HO.out] at y2
        have R2 := Lib.hid q2
        clear q2 hr
        go_wp2_with (first | (at_builtin; refine wpList_cat w.drew rfl (.tmp 42) (.tmp 46) rfl wF.heap.size wF _ (xs ++ wlk En.l es (key ++ [some s]) r ++ wlk En.l es (key ++ [none]) r) rfl H4.out B _ (slot En.l es key 2) rfl R2.out.1 (by (try simp only [List.length_append]); omega) ONE2.out ?_; intro v5 w5 h5; have H5 := Lib.hid h5; obtain ⟨A5, n5, c5, rfl⟩ := h5.shape; obtain ⟨-, -, -, y3, -, -, -, q3, -⟩ := FX.out w5 h5.2.1; rw [← HO.out] at y3; have Q3 := Lib.hid q3; clear h5 q3) | (at_builtin; refine wpList_cat w5 rfl (.tmp 48) (.tmp 52) rfl wF.heap.size wF _ (xs ++ wlk En.l es (key ++ [some s]) r ++ wlk En.l es (key ++ [none]) r ++ slot En.l es key 2) rfl H5.out B _ (slot En.l es key 3) rfl Q3.out.1 (by (try simp only [List.length_append]); omega) ONE3.out ?_; intro v6 w6 h6; have H6 := Lib.hid h6; obtain ⟨A6, n6, c6, rfl⟩ := h6.shape; obtain ⟨-, -, -, -, y4, -, -, -, q4⟩ := FX.out w6 h6.2.1; rw [← HO.out] at y4; have Q4 := Lib.hid q4; clear h6 q4))
        go_ret
        refine ⟨_, rfl, ?_⟩
        rw [HL.out, if_pos HR.out]
        have := H6.out
        simp only [List.append_assoc] at this ⊢
        exact this
      · have HR := Lib.hid hr
        have hr1 : 0 < r.length := List.length_pos_iff.2 hr
        have dC : ¬ (r.length : Int) + 1 ≤ 1 := by omega
        have dD : ((r.length : Int) + 1 == 0) = false := by simp; omega
        obtain ⟨-, -, -, y3, -, -, -, q3, -⟩ := FX.out w.drew H4.out.2.1
        rw [← HO.out] at y3
        have Q3 := Lib.hid q3
        clear q3 hr
        go_wp2_with (first | (at_builtin; refine wpList_cat w.drew rfl (.tmp 48) (.tmp 52) rfl wF.heap.size wF _ (xs ++ wlk En.l es (key ++ [some s]) r ++ wlk En.l es (key ++ [none]) r) rfl H4.out B _ (slot En.l es key 3) rfl Q3.out.1 (by (try simp only [List.length_append]); omega) ONE3.out ?_; intro v6 w6 h6; have H6 := Lib.hid h6; obtain ⟨A6, n6, c6, rfl⟩ := h6.shape; obtain ⟨-, -, -, -, y4, -, -, -, q4⟩ := FX.out w6 h6.2.1; rw [← HO.out] at y4; have Q4 := Lib.hid q4; clear h6 q4))
        go_ret
        refine ⟨_, rfl, ?_⟩
        rw [HL.out, if_neg HR.out]
        have := H6.out
        simp only [List.append_assoc, List.nil_append] at this ⊢
        exact this
    · obtain ⟨-, y9, -⟩ := FX.out w.drew H3.out.2.1
      rw [← HO.out, hnN] at y9
      have y1 : w.drew.cell? ⟨b, o + 1, none⟩ = some (.pointer (some ⟨N2, 0, none⟩)) := y9
      clear y9
      go_wp2_with fail
      have hS1 : (fun W : World => W.cell? ⟨b, o + 1, none⟩ = some (.pointer (some ⟨N2, 0, none⟩))) w.drew.drew := y1
      refine wp_region_sink (S := (fun W : World => W.cell? ⟨b, o + 1, none⟩ = some (.pointer (some ⟨N2, 0, none⟩)))) (n := 1000) (by kernel_rfl) ?_
      change wpSink _ _ _ _ _ 1000 9 _ _ _
      refine sink_take1 (i := 0) (d := some 31) (v := ?_) rfl rfl (by kernel_rfl) (by decide) (by kernel_rfl) (by kernel_rfl) (fun _ _ _ h => h) (Or.inl ⟨by rfl, ?_⟩) hS1 ?_
      rotate_left
      · intro wz hSw
        (try dsimp only at hSw)
        go_simp
        (try with_reducible rfl)
      try simp only [Act.put, List.setIfInBounds_toArray, List.set_cons_zero, List.set_cons_succ]
      refine sink_take1 (i := 1) (d := some 32) (v := ?_) rfl rfl (by kernel_rfl) (by decide) (by kernel_rfl) (by kernel_rfl) (fun _ _ _ h => h) (Or.inl ⟨by rfl, ?_⟩) hS1 ?_
      rotate_left
      · intro wz hSw
        (try dsimp only at hSw)
        go_simp
        (try with_reducible rfl)
      try simp only [Act.put, List.setIfInBounds_toArray, List.set_cons_zero, List.set_cons_succ]
      refine sink_take1 (i := 2) (d := some 33) (v := ?_) rfl rfl (by kernel_rfl) (by decide) (by kernel_rfl) (by kernel_rfl) (fun _ _ _ h => h) (Or.inl ⟨by rfl, ?_⟩) hS1 ?_
      rotate_left
      · intro wz hSw
        (try dsimp only at hSw)
        go_simp
        (try with_reducible rfl)
      try simp only [Act.put, List.setIfInBounds_toArray, List.set_cons_zero, List.set_cons_succ]
      refine sink_take1 (i := 3) (d := some 34) (v := ?_) rfl rfl (by kernel_rfl) (by decide) (by kernel_rfl) (by kernel_rfl) (fun _ _ _ h => h) (Or.inl ⟨by rfl, ?_⟩) hS1 ?_
      rotate_left
      · intro wz hSw
        (try dsimp only at hSw)
        go_simp
        (try with_reducible rfl)
      try simp only [Act.put, List.setIfInBounds_toArray, List.set_cons_zero, List.set_cons_succ]
      refine sink_take1 (i := 4) (d := some 35) (v := ?_) rfl rfl (by kernel_rfl) (by decide) (by kernel_rfl) (by kernel_rfl) (fun _ _ _ h => h) (Or.inl ⟨by rfl, ?_⟩) hS1 ?_
      rotate_left
      · intro wz hSw
        (try dsimp only at hSw)
        go_simp
        (try with_reducible rfl)
      try simp only [Act.put, List.setIfInBounds_toArray, List.set_cons_zero, List.set_cons_succ]
      refine sink_take1 (i := 5) (d := some 36) (v := ?_) rfl rfl (by kernel_rfl) (by decide) (by kernel_rfl) (by kernel_rfl) (fun _ _ _ h => h) (Or.inl ⟨by rfl, ?_⟩) hS1 ?_
      rotate_left
      · intro wz hSw
        (try dsimp only at hSw)
        go_simp
        (try with_reducible rfl)
      try simp only [Act.put, List.setIfInBounds_toArray, List.set_cons_zero, List.set_cons_succ]
      refine sink_take1 (i := 6) (d := some 37) (v := ?_) rfl rfl (by kernel_rfl) (by decide) (by kernel_rfl) (by kernel_rfl) (fun _ _ _ h => h) (Or.inl ⟨by rfl, ?_⟩) hS1 ?_
      rotate_left
      · intro wz hSw
        (try dsimp only at hSw)
        go_simp
        (try with_reducible rfl)
      try simp only [Act.put, List.setIfInBounds_toArray, List.set_cons_zero, List.set_cons_succ]
      refine sink_one (i := 7) (by kernel_rfl) ?_
      refine wpOp_step rfl (fun K' hK => ?_)
      have HKK := Lib.hid hK
      clear hK
      rw [if_pos (by rfl)]
      go_simp
      refine (IHN.out N2 hnN _ _ _ _ SX.out H3.out.drew (by simp only [List.length_append]; omega)).mono ?_
      rintro e w4 ⟨v4, rfl, h4⟩
      have H4 := Lib.hid h4
      obtain ⟨-, y4, -⟩ := FX.out w4 h4.2.1
      rw [← HO.out, hnN] at y4
      have hS4 : (fun W : World => W.cell? ⟨b, o + 1, none⟩ = some (.pointer (some ⟨N2, 0, none⟩))) w4 := y4
      obtain ⟨A4', n4', c4', rfl⟩ := h4.shape
      clear h4 y4
      refine HKK.out _ _ ⟨Or.inr hS4, ?_⟩
      clear HKK
      try simp only [Act.put, List.setIfInBounds_toArray, List.set_cons_zero, List.set_cons_succ]
      refine sink_take1 (i := 8) (d := some 2) (v := ?_) rfl rfl (by kernel_rfl) (by decide) (by kernel_rfl) (by kernel_rfl) (fun _ _ _ h => h) (Or.inl ⟨by rfl, ?_⟩) hS4 ?_
      rotate_left
      · intro wz hSw
        (try dsimp only at hSw)
        go_simp
        (try with_reducible rfl)
      try simp only [Act.put, List.setIfInBounds_toArray, List.set_cons_zero, List.set_cons_succ]
      refine sink_done (by kernel_rfl) ?_
      clear hS1 hS4 y1
      by_cases hr : r = []
      · have l5 := L5.out hr
        have HR := Lib.hid hr
        have dC : (r.length : Int) + 1 ≤ 1 := by rw [hr]; simp
        have dD : ((r.length : Int) + 1 == 0) = false := by simp; omega
        obtain ⟨-, -, y2, -, -, -, q2, -, -⟩ := FX.out w4 H4.out.2.1
        rw [← HO.out] at y2
        have R2 := Lib.hid q2
        clear q2 hr
        go_wp2_with (first | (at_builtin; refine wpList_cat w4 rfl (.tmp 42) (.tmp 46) rfl wF.heap.size wF _ (xs ++ wlk En.l es (key ++ [some s]) r ++ wlk En.l es (key ++ [none]) r) rfl H4.out B _ (slot En.l es key 2) rfl R2.out.1 (by (try simp only [List.length_append]); omega) ONE2.out ?_; intro v5 w5 h5; have H5 := Lib.hid h5; obtain ⟨A5, n5, c5, rfl⟩ := h5.shape; obtain ⟨-, -, -, y3, -, -, -, q3, -⟩ := FX.out w5 h5.2.1; rw [← HO.out] at y3; have Q3 := Lib.hid q3; clear h5 q3) | (at_builtin; refine wpList_cat w5 rfl (.tmp 48) (.tmp 52) rfl wF.heap.size wF _ (xs ++ wlk En.l es (key ++ [some s]) r ++ wlk En.l es (key ++ [none]) r ++ slot En.l es key 2) rfl H5.out B _ (slot En.l es key 3) rfl Q3.out.1 (by (try simp only [List.length_append]); omega) ONE3.out ?_; intro v6 w6 h6; have H6 := Lib.hid h6; obtain ⟨A6, n6, c6, rfl⟩ := h6.shape; obtain ⟨-, -, -, -, y4, -, -, -, q4⟩ := FX.out w6 h6.2.1; rw [← HO.out] at y4; have Q4 := Lib.hid q4; clear h6 q4))
        go_ret
        refine ⟨_, rfl, ?_⟩
        rw [HL.out, if_pos HR.out]
        have := H6.out
        simp only [List.append_assoc] at this ⊢
        exact this
      · have HR := Lib.hid hr
        have hr1 : 0 < r.length := List.length_pos_iff.2 hr
        have dC : ¬ (r.length : Int) + 1 ≤ 1 := by omega
        have dD : ((r.length : Int) + 1 == 0) = false := by simp; omega
        obtain ⟨-, -, -, y3, -, -, -, q3, -⟩ := FX.out w4 H4.out.2.1
        rw [← HO.out] at y3
        have Q3 := Lib.hid q3
        clear q3 hr
        go_wp2_with (first | (at_builtin; refine wpList_cat w4 rfl (.tmp 48) (.tmp 52) rfl wF.heap.size wF _ (xs ++ wlk En.l es (key ++ [some s]) r ++ wlk En.l es (key ++ [none]) r) rfl H4.out B _ (slot En.l es key 3) rfl Q3.out.1 (by (try simp only [List.length_append]); omega) ONE3.out ?_; intro v6 w6 h6; have H6 := Lib.hid h6; obtain ⟨A6, n6, c6, rfl⟩ := h6.shape; obtain ⟨-, -, -, -, y4, -, -, -, q4⟩ := FX.out w6 h6.2.1; rw [← HO.out] at y4; have Q4 := Lib.hid q4; clear h6 q4))
        go_ret
        refine ⟨_, rfl, ?_⟩
        rw [HL.out, if_neg HR.out]
        have := H6.out
        simp only [List.append_assoc, List.nil_append] at this ⊢
        exact this
  · rw [hnS] at LK
    have LK : Hid ((Instr.lookup 123 (.map m) (.string s) false).run Tryz.prog w.drew = .ok (.pointer (some ⟨N1, 0, none⟩)) w.drew) := LK.out
    go_enter Tryz.func83, Tryz.ntmps83
    go_wp2_with fail
    have hS0 : (fun W : World => W.cell? ⟨b, o, none⟩ = some (.map m) ∧ W.cell? ⟨pb, po, none⟩ = some (.string s) ∧ (Instr.lookup 123 (.map m) (.string s) false).run Tryz.prog W = .ok (.pointer (some ⟨N1, 0, none⟩)) W) w.drew := ⟨y0, z0, LK.out⟩
    refine wp_region_sink (S := (fun W : World => W.cell? ⟨b, o, none⟩ = some (.map m) ∧ W.cell? ⟨pb, po, none⟩ = some (.string s) ∧ (Instr.lookup 123 (.map m) (.string s) false).run Tryz.prog W = .ok (.pointer (some ⟨N1, 0, none⟩)) W)) (n := 1000) (by kernel_rfl) ?_
    change wpSink _ _ _ _ _ 1000 9 _ _ _
    refine sink_take1 (i := 0) (d := some 11) (v := ?_) rfl rfl (by kernel_rfl) (by decide) (by kernel_rfl) (by kernel_rfl) (fun _ _ _ h => h) (Or.inl ⟨by rfl, ?_⟩) hS0 ?_
    rotate_left
    · intro wz hSw
      (try dsimp only at hSw)
      obtain ⟨g1, g2, g3⟩ := hSw
      go_simp
      (try with_reducible rfl)
    try simp only [Act.put, List.setIfInBounds_toArray, List.set_cons_zero, List.set_cons_succ]
    refine sink_take1 (i := 1) (d := some 12) (v := ?_) rfl rfl (by kernel_rfl) (by decide) (by kernel_rfl) (by kernel_rfl) (fun _ _ _ h => h) (Or.inl ⟨by rfl, ?_⟩) hS0 ?_
    rotate_left
    · intro wz hSw
      (try dsimp only at hSw)
      obtain ⟨g1, g2, g3⟩ := hSw
      go_simp
      (try with_reducible rfl)
    try simp only [Act.put, List.setIfInBounds_toArray, List.set_cons_zero, List.set_cons_succ]
    refine sink_take1 (i := 2) (d := some 13) (v := ?_) rfl rfl (by kernel_rfl) (by decide) (by kernel_rfl) (by kernel_rfl) (fun _ _ _ h => h) (Or.inl ⟨by rfl, ?_⟩) hS0 ?_
    rotate_left
    · intro wz hSw
      (try dsimp only at hSw)
      obtain ⟨g1, g2, g3⟩ := hSw
      go_simp
      (try with_reducible rfl)
    try simp only [Act.put, List.setIfInBounds_toArray, List.set_cons_zero, List.set_cons_succ]
    refine sink_take1 (i := 3) (d := some 14) (v := ?_) rfl rfl (by kernel_rfl) (by decide) (by kernel_rfl) (by kernel_rfl) (fun _ _ _ h => h) (Or.inl ⟨by rfl, ?_⟩) hS0 ?_
    rotate_left
    · intro wz hSw
      (try dsimp only at hSw)
      obtain ⟨g1, g2, g3⟩ := hSw
      go_simp
      (try with_reducible rfl)
    try simp only [Act.put, List.setIfInBounds_toArray, List.set_cons_zero, List.set_cons_succ]
    refine sink_take1 (i := 4) (d := some 15) (v := ?_) rfl rfl (by kernel_rfl) (by decide) (by kernel_rfl) (by kernel_rfl) (fun _ _ _ h => h) (Or.inl ⟨by rfl, ?_⟩) hS0 ?_
    rotate_left
    · intro wz hSw
      (try dsimp only at hSw)
      obtain ⟨g1, g2, g3⟩ := hSw
      go_simp
      (try with_reducible rfl)
    try simp only [Act.put, List.setIfInBounds_toArray, List.set_cons_zero, List.set_cons_succ]
    refine sink_take1 (i := 5) (d := some 16) (v := ?_) rfl rfl (by kernel_rfl) (by decide) (by kernel_rfl) (by kernel_rfl) (fun _ _ _ h => h) (Or.inl ⟨by rfl, ?_⟩) hS0 ?_
    rotate_left
    · intro wz hSw
      (try dsimp only at hSw)
      obtain ⟨g1, g2, g3⟩ := hSw
      go_simp
      (try with_reducible rfl)
    try simp only [Act.put, List.setIfInBounds_toArray, List.set_cons_zero, List.set_cons_succ]
    refine sink_take1 (i := 6) (d := some 17) (v := ?_) rfl rfl (by kernel_rfl) (by decide) (by kernel_rfl) (by kernel_rfl) (fun _ _ _ h => h) (Or.inl ⟨by rfl, ?_⟩) hS0 ?_
    rotate_left
    · intro wz hSw
      (try dsimp only at hSw)
      obtain ⟨g1, g2, g3⟩ := hSw
      go_simp
      (try with_reducible rfl)
    try simp only [Act.put, List.setIfInBounds_toArray, List.set_cons_zero, List.set_cons_succ]
    refine sink_take1 (i := 7) (d := some 18) (v := ?_) rfl rfl (by kernel_rfl) (by decide) (by kernel_rfl) (by kernel_rfl) (fun _ _ _ h => h) (Or.inl ⟨by rfl, ?_⟩) hS0 ?_
    rotate_left
    · intro wz hSw
      (try dsimp only at hSw)
      obtain ⟨g1, g2, g3⟩ := hSw
      go_simp
      (try with_reducible rfl)
    try simp only [Act.put, List.setIfInBounds_toArray, List.set_cons_zero, List.set_cons_succ]
    refine sink_take1 (i := 8) (d := some 7) (v := ?_) rfl rfl (by kernel_rfl) (by decide) (by kernel_rfl) (by kernel_rfl) (fun _ _ _ h => h) (Or.inl ⟨by rfl, ?_⟩) hS0 ?_
    rotate_left
    · intro wz hSw
      (try dsimp only at hSw)
      obtain ⟨g1, g2, g3⟩ := hSw
      go_simp
      (try with_reducible rfl)
    try simp only [Act.put, List.setIfInBounds_toArray, List.set_cons_zero, List.set_cons_succ]
    refine sink_done (by kernel_rfl) ?_
    clear hS0 y1
    go_wp2_with fail
    refine (IHS.out N1 hnS _ _ _ _ SX.out HOWN.out.drew (by omega)).mono ?_
    rintro e w3 ⟨v3, rfl, h3⟩
    have H3 := Lib.hid h3
    obtain ⟨A3', n3', c3', rfl⟩ := h3.shape
    clear h3
    rcases hnN : nd (key ++ [none]) with _ | N2
    · obtain ⟨-, y9, -⟩ := FX.out w3 H3.out.2.1
      rw [← HO.out, hnN] at y9
      have y1 : w3.cell? ⟨b, o + 1, none⟩ = some (.pointer none) := y9
      clear y9
      have H4 : Hid (OwnE wF.heap.size wF (.slice A3' n3' c3') (xs ++ wlk En.l es (key ++ [some s]) r ++ wlk En.l es (key ++ [none]) r) w3) := by
        have h9 := H3.out
        rw [NN.out hnN]
        rw [List.append_nil]
        exact h9
      by_cases hr : r = []
      · have l5 := L5.out hr
        have HR := Lib.hid hr
        have dC : (r.length : Int) + 1 ≤ 1 := by rw [hr]; simp
        have dD : ((r.length : Int) + 1 == 0) = false := by simp; omega
        obtain ⟨-, -, y2, -, -, -, q2, -, -⟩ := FX.out w3 H4.out.2.1
        rw [← HO.out] at y2
        have R2 := Lib.hid q2
        clear q2 hr
        go_wp2_with (first | (at_builtin; refine wpList_cat w3 rfl (.tmp 42) (.tmp 46) rfl wF.heap.size wF _ (xs ++ wlk En.l es (key ++ [some s]) r ++ wlk En.l es (key ++ [none]) r) rfl H4.out B _ (slot En.l es key 2) rfl R2.out.1 (by (try simp only [List.length_append]); omega) ONE2.out ?_; intro v5 w5 h5; have H5 := Lib.hid h5; obtain ⟨A5, n5, c5, rfl⟩ := h5.shape; obtain ⟨-, -, -, y3, -, -, -, q3, -⟩ := FX.out w5 h5.2.1; rw [← HO.out] at y3; have Q3 := Lib.hid q3; clear h5 q3) | (at_builtin; refine wpList_cat w5 rfl (.tmp 48) (.tmp 52) rfl wF.heap.size wF _ (xs ++ wlk En.l es (key ++ [some s]) r ++ wlk En.l es (key ++ [none]) r ++ slot En.l es key 2) rfl H5.out B _ (slot En.l es key 3) rfl Q3.out.1 (by (try simp only [List.length_append]); omega) ONE3.out ?_; intro v6 w6 h6; have H6 := Lib.hid h6; obtain ⟨A6, n6, c6, rfl⟩ := h6.shape; obtain ⟨-, -, -, -, y4, -, -, -, q4⟩ := FX.out w6 h6.2.1; rw [← HO.out] at y4; have Q4 := Lib.hid q4; clear h6 q4))
        go_ret
        refine ⟨_, rfl, ?_⟩
        rw [HL.out, if_pos HR.out]
        have := H6.out
        simp only [List.append_assoc] at this ⊢
        exact this
      · have HR := Lib.hid hr
        have hr1 : 0 < r.length := List.length_pos_iff.2 hr
        have dC : ¬ (r.length : Int) + 1 ≤ 1 := by omega
        have dD : ((r.length : Int) + 1 == 0) = false := by simp; omega
        obtain ⟨-, -, -, y3, -, -, -, q3, -⟩ := FX.out w3 H4.out.2.1
        rw [← HO.out] at y3
        have Q3 := Lib.hid q3
        clear q3 hr
        go_wp2_with (first | (at_builtin; refine wpList_cat w3 rfl (.tmp 48) (.tmp 52) rfl wF.heap.size wF _ (xs ++ wlk En.l es (key ++ [some s]) r ++ wlk En.l es (key ++ [none]) r) rfl H4.out B _ (slot En.l es key 3) rfl Q3.out.1 (by (try simp only [List.length_append]); omega) ONE3.out ?_; intro v6 w6 h6; have H6 := Lib.hid h6; obtain ⟨A6, n6, c6, rfl⟩ := h6.shape; obtain ⟨-, -, -, -, y4, -, -, -, q4⟩ := FX.out w6 h6.2.1; rw [← HO.out] at y4; have Q4 := Lib.hid q4; clear h6 q4))
        go_ret
        refine ⟨_, rfl, ?_⟩
        rw [HL.out, if_neg HR.out]
        have := H6.out
        simp only [List.append_assoc, List.nil_append] at this ⊢
        exact this
    · obtain ⟨-, y9, -⟩ := FX.out w3 H3.out.2.1
      rw [← HO.out, hnN] at y9
      have y1 : w3.cell? ⟨b, o + 1, none⟩ = some (.pointer (some ⟨N2, 0, none⟩)) := y9
      clear y9
      go_wp2_with fail
      have hS1 : (fun W : World => W.cell? ⟨b, o + 1, none⟩ = some (.pointer (some ⟨N2, 0, none⟩))) w3.drew := y1
      refine wp_region_sink (S := (fun W : World => W.cell? ⟨b, o + 1, none⟩ = some (.pointer (some ⟨N2, 0, none⟩)))) (n := 1000) (by kernel_rfl) ?_
      change wpSink _ _ _ _ _ 1000 9 _ _ _
      refine sink_take1 (i := 0) (d := some 31) (v := ?_) rfl rfl (by kernel_rfl) (by decide) (by kernel_rfl) (by kernel_rfl) (fun _ _ _ h => h) (Or.inl ⟨by rfl, ?_⟩) hS1 ?_
      rotate_left
      · intro wz hSw
        (try dsimp only at hSw)
        go_simp
        (try with_reducible rfl)
      try simp only [Act.put, List.setIfInBounds_toArray, List.set_cons_zero, List.set_cons_succ]
      refine sink_take1 (i := 1) (d := some 32) (v := ?_) rfl rfl (by kernel_rfl) (by decide) (by kernel_rfl) (by kernel_rfl) (fun _ _ _ h => h) (Or.inl ⟨by rfl, ?_⟩) hS1 ?_
      rotate_left
      · intro wz hSw
        (try dsimp only at hSw)
        go_simp
        (try with_reducible rfl)
      try simp only [Act.put, List.setIfInBounds_toArray, List.set_cons_zero, List.set_cons_succ]
      refine sink_take1 (i := 2) (d := some 33) (v := ?_) rfl rfl (by kernel_rfl) (by decide) (by kernel_rfl) (by kernel_rfl) (fun _ _ _ h => h) (Or.inl ⟨by rfl, ?_⟩) hS1 ?_
      rotate_left
      · intro wz hSw
        (try dsimp only at hSw)
        go_simp
        (try with_reducible rfl)
      try simp only [Act.put, List.setIfInBounds_toArray, List.set_cons_zero, List.set_cons_succ]
      refine sink_take1 (i := 3) (d := some 34) (v := ?_) rfl rfl (by kernel_rfl) (by decide) (by kernel_rfl) (by kernel_rfl) (fun _ _ _ h => h) (Or.inl ⟨by rfl, ?_⟩) hS1 ?_
      rotate_left
      · intro wz hSw
        (try dsimp only at hSw)
        go_simp
        (try with_reducible rfl)
      try simp only [Act.put, List.setIfInBounds_toArray, List.set_cons_zero, List.set_cons_succ]
      refine sink_take1 (i := 4) (d := some 35) (v := ?_) rfl rfl (by kernel_rfl) (by decide) (by kernel_rfl) (by kernel_rfl) (fun _ _ _ h => h) (Or.inl ⟨by rfl, ?_⟩) hS1 ?_
      rotate_left
      · intro wz hSw
        (try dsimp only at hSw)
        go_simp
        (try with_reducible rfl)
      try simp only [Act.put, List.setIfInBounds_toArray, List.set_cons_zero, List.set_cons_succ]
      refine sink_take1 (i := 5) (d := some 36) (v := ?_) rfl rfl (by kernel_rfl) (by decide) (by kernel_rfl) (by kernel_rfl) (fun _ _ _ h => h) (Or.inl ⟨by rfl, ?_⟩) hS1 ?_
      rotate_left
      · intro wz hSw
        (try dsimp only at hSw)
        go_simp
        (try with_reducible rfl)
      try simp only [Act.put, List.setIfInBounds_toArray, List.set_cons_zero, List.set_cons_succ]
      refine sink_take1 (i := 6) (d := some 37) (v := ?_) rfl rfl (by kernel_rfl) (by decide) (by kernel_rfl) (by kernel_rfl) (fun _ _ _ h => h) (Or.inl ⟨by rfl, ?_⟩) hS1 ?_
      rotate_left
      · intro wz hSw
        (try dsimp only at hSw)
        go_simp
        (try with_reducible rfl)
      try simp only [Act.put, List.setIfInBounds_toArray, List.set_cons_zero, List.set_cons_succ]
      refine sink_one (i := 7) (by kernel_rfl) ?_
      refine wpOp_step rfl (fun K' hK => ?_)
      have HKK := Lib.hid hK
      clear hK
      rw [if_pos (by rfl)]
      go_simp
      refine (IHN.out N2 hnN _ _ _ _ SX.out H3.out.drew (by simp only [List.length_append]; omega)).mono ?_
      rintro e w4 ⟨v4, rfl, h4⟩
      have H4 := Lib.hid h4
      obtain ⟨-, y4, -⟩ := FX.out w4 h4.2.1
      rw [← HO.out, hnN] at y4
      have hS4 : (fun W : World => W.cell? ⟨b, o + 1, none⟩ = some (.pointer (some ⟨N2, 0, none⟩))) w4 := y4
      obtain ⟨A4', n4', c4', rfl⟩ := h4.shape
      clear h4 y4
      refine HKK.out _ _ ⟨Or.inr hS4, ?_⟩
      clear HKK
      try simp only [Act.put, List.setIfInBounds_toArray, List.set_cons_zero, List.set_cons_succ]
      refine sink_take1 (i := 8) (d := some 2) (v := ?_) rfl rfl (by kernel_rfl) (by decide) (by kernel_rfl) (by kernel_rfl) (fun _ _ _ h => h) (Or.inl ⟨by rfl, ?_⟩) hS4 ?_
      rotate_left
      · intro wz hSw
        (try dsimp only at hSw)
        go_simp
        (try with_reducible rfl)
      try simp only [Act.put, List.setIfInBounds_toArray, List.set_cons_zero, List.set_cons_succ]
      refine sink_done (by kernel_rfl) ?_
      clear hS1 hS4 y1
      by_cases hr : r = []
      · have l5 := L5.out hr
        have HR := Lib.hid hr
        have dC : (r.length : Int) + 1 ≤ 1 := by rw [hr]; simp
        have dD : ((r.length : Int) + 1 == 0) = false := by simp; omega
        obtain ⟨-, -, y2, -, -, -, q2, -, -⟩ := FX.out w4 H4.out.2.1
        rw [← HO.out] at y2
        have R2 := Lib.hid q2
        clear q2 hr
        go_wp2_with (first | (at_builtin; refine wpList_cat w4 rfl (.tmp 42) (.tmp 46) rfl wF.heap.size wF _ (xs ++ wlk En.l es (key ++ [some s]) r ++ wlk En.l es (key ++ [none]) r) rfl H4.out B _ (slot En.l es key 2) rfl R2.out.1 (by (try simp only [List.length_append]); omega) ONE2.out ?_; intro v5 w5 h5; have H5 := Lib.hid h5; obtain ⟨A5, n5, c5, rfl⟩ := h5.shape; obtain ⟨-, -, -, y3, -, -, -, q3, -⟩ := FX.out w5 h5.2.1; rw [← HO.out] at y3; have Q3 := Lib.hid q3; clear h5 q3) | (at_builtin; refine wpList_cat w5 rfl (.tmp 48) (.tmp 52) rfl wF.heap.size wF _ (xs ++ wlk En.l es (key ++ [some s]) r ++ wlk En.l es (key ++ [none]) r ++ slot En.l es key 2) rfl H5.out B _ (slot En.l es key 3) rfl Q3.out.1 (by (try simp only [List.length_append]); omega) ONE3.out ?_; intro v6 w6 h6; have H6 := Lib.hid h6; obtain ⟨A6, n6, c6, rfl⟩ := h6.shape; obtain ⟨-, -, -, -, y4, -, -, -, q4⟩ := FX.out w6 h6.2.1; rw [← HO.out] at y4; have Q4 := Lib.hid q4; clear h6 q4))
        go_ret
        refine ⟨_, rfl, ?_⟩
        rw [HL.out, if_pos HR.out]
        have := H6.out
        simp only [List.append_assoc] at this ⊢
        exact this
      · have HR := Lib.hid hr
        have hr1 : 0 < r.length := List.length_pos_iff.2 hr
        have dC : ¬ (r.length : Int) + 1 ≤ 1 := by omega
        have dD : ((r.length : Int) + 1 == 0) = false := by simp; omega
        obtain ⟨-, -, -, y3, -, -, -, q3, -⟩ := FX.out w4 H4.out.2.1
        rw [← HO.out] at y3
        have Q3 := Lib.hid q3
        clear q3 hr
        go_wp2_with (first | (at_builtin; refine wpList_cat w4 rfl (.tmp 48) (.tmp 52) rfl wF.heap.size wF _ (xs ++ wlk En.l es (key ++ [some s]) r ++ wlk En.l es (key ++ [none]) r) rfl H4.out B _ (slot En.l es key 3) rfl Q3.out.1 (by (try simp only [List.length_append]); omega) ONE3.out ?_; intro v6 w6 h6; have H6 := Lib.hid h6; obtain ⟨A6, n6, c6, rfl⟩ := h6.shape; obtain ⟨-, -, -, -, y4, -, -, -, q4⟩ := FX.out w6 h6.2.1; rw [← HO.out] at y4; have Q4 := Lib.hid q4; clear h6 q4))
        go_ret
        refine ⟨_, rfl, ?_⟩
        rw [HL.out, if_neg HR.out]
        have := H6.out
        simp only [List.append_assoc, List.nil_append] at this ⊢
        exact this

theorem walk24 (h : Tr B w0 T cnt es nd ro c wF) (path : List ByteArray) (hsz : ∀ s ∈ path, s.size ≤ maxLen) :
    ∀ (key : Key) (b : Nat), nd key = some b → ∀ (pv v : Value) (xs : List En) (w : World), Ss wF pv path → OwnE wF.heap.size wF v xs w → xs.length + (wlk En.l es key path).length ≤ 1000000 →
      Calls Tryz.prog 83 #[.pointer (some ⟨b, (preK cnt key).length, none⟩), pv, v] w (WalkPost wF.heap.size wF (xs ++ wlk En.l es key path)) := by
  induction path with
  | nil =>
    intro key b hk pv v xs w hp hown hlen
    obtain ⟨A, cap, rfl, -⟩ := hp
    exact walk_nil h hk A cap v xs w hown hlen
  | cons s r ih =>
    intro key b hk pv v xs w hp hown hlen
    obtain ⟨A, n, cap, rfl⟩ := hp.shape
    exact walk_cons h s r (hsz s (by simp)) (ih fun s' hs' => hsz s' (by simp [hs'])) hk A n cap hp v xs w hown hlen
end
end Go.Proofs.YthigandmemifoaaGreatDoor
