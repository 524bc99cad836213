/-
  Put together: Tri.
-/
import Derived.Test.YthigandmemifoaaGreatDoorP16
import Derived.Maps.OwnOps
import Derived.Maps.Views
import Derived.BigFrame
namespace Go.Proofs.YthigandmemifoaaGreatDoor
open Go.RowKit Go.PlainAid Go.Maps

/-- a pattern with its number, and the slice that holds it -/
structure En where
  n : Nat
  u : Value
  l : List Sg
def enC (e : En) : List Value := [.int .i64 e.n, e.u]
theorem enC_len (l : List En) : (l.flatMap enC).length = l.length * 2 := by
  induction l with
  | nil => rfl
  | cons p l ih => simp [enC] at ih ⊢; omega

/-- how a pointer to a node reads -/
def ptrR (v : Value) : Option (DataW Unit × List MemPlace) := match v with
  | .pointer (some ⟨b, 0, none⟩) => some (.lit (.int .i64 b), [])
  | .pointer none => some (.nil, [])
  | _ => none
def dOf (o : Option Nat) : DataW Unit := match o with
  | some c => .lit (.int .i64 c)
  | none => .nil
/-- the pointer to a node that is not the first -/
def pOf (o : Option Nat) : Value := .pointer (o.map fun c => ⟨c, 0, none⟩)
theorem ptrR_of (o : Option Nat) : ptrR (pOf o) = some (dOf o, []) := by cases o <;> rfl
theorem ptrR_inv {v : Value} {o : Option Nat} {ps : List MemPlace} (h : ptrR v = some (dOf o, ps)) : v = pOf o := by
  unfold ptrR at h
  split at h
  · rename_i b
    simp only [Option.some.injEq, Prod.mk.injEq] at h
    cases o with
    | none => simp [dOf] at h
    | some c =>
      simp only [dOf, DataW.lit.injEq, Lit.int.injEq, true_and] at h
      have : b = c := by omega
      rw [this]
      rfl
  · cases o with
    | none => rfl
    | some c => simp [dOf] at h
  · cases h
/-- block b is a map of at most n texts to nodes -/
def MapN (w : World) (b n : Nat) (g : ByteArray → Option Nat) : Prop :=
  ∃ D : DataW Unit, w.ownsMap Tryz.prog 9 ptrR b n D ∧ (∃ es, D = .map es) ∧ ∀ s : ByteArray, s.size ≤ maxLen → D.atKey (.string s.data.toList) .nil = dOf (g s)
theorem mapN_new (w : World) : MapN (w.alloc (.map #[] 0)) w.heap.size 0 (fun _ => none) :=
  ⟨.map [], World.ownsMap_made _ _ _ _, ⟨_, rfl⟩, fun _ _ => rfl⟩
theorem MapN.frame {w w' : World} {b n n' : Nat} {g : ByteArray → Option Nat} (h : MapN w b n g) (hb : w'.heap[b]? = w.heap[b]?) (hn : n ≤ n') : MapN w' b n' g := by
  obtain ⟨D, ⟨es, clock, h1, h2, h3, h4⟩, h5, h6⟩ := h
  exact ⟨D, ⟨es, clock, hb.trans h1, h2, Nat.le_trans h3 hn, h4⟩, h5, h6⟩
theorem MapN.congr {w : World} {b n : Nat} {g g' : ByteArray → Option Nat} (h : MapN w b n g) (hg : ∀ t, g' t = g t) : MapN w b n g' := by
  have : g' = g := funext hg
  rw [this]
  exact h
theorem MapN.lt {w : World} {b n : Nat} {g : ByteArray → Option Nat} (h : MapN w b n g) : b < w.heap.size := by
  obtain ⟨D, h1, _⟩ := h
  exact h1.lt
theorem keyed9 : Keyed Tryz.prog 9 := string_keyed Tryz.underlying9
theorem zero57 (w : World) : (zeroValue 124).run Tryz.prog w = .ok (.pointer none) w := by kernel_rfl
theorem MapN.look {w : World} {b n : Nat} {g : ByteArray → Option Nat} (h : MapN w b n g) (s : ByteArray) (hs : s.size ≤ maxLen) :
    (Instr.lookup 123 (.map (some b)) (.string s) false).run Tryz.prog w = .ok (pOf (g s)) w := by
  obtain ⟨D, h1, _, h3⟩ := h
  obtain ⟨v, ps, hrun, hv⟩ := h1.lookup keyed9 Tryz.underlying123 (zero57 w) (zd := .nil) (zp := []) rfl (WideMaps.keyOf_string_mk Tryz.underlying9 hs)
  rw [h3 s hs] at hv
  rw [hrun, ptrR_inv hv]
theorem look_nil (w : World) (s : ByteArray) : (Instr.lookup 123 (.map none) (.string s) false).run Tryz.prog w = .ok (.pointer none) w := by
  kernel_rfl
theorem MapN.put {w : World} {b n : Nat} {g : ByteArray → Option Nat} (h : MapN w b n g) (s : ByteArray) (hs : s.size ≤ maxLen) (hn : n < maxLen) (c : Nat) :
    ∃ w', (Instr.mapUpdate 123 (.map (some b)) (.string s) (.pointer (some ⟨c, 0, none⟩))).run Tryz.prog w = .ok () w' ∧ MapN w' b (n + 1) (fun t => if t = s then some c else g t) ∧ w.grownBy w' (some b) := by
  obtain ⟨D, h1, h2, h3⟩ := h
  obtain ⟨w', hr, h4, h5⟩ := h1.update keyed9 Tryz.underlying123 hn (WideMaps.keyOf_string_mk Tryz.underlying9 hs) (val := .pointer (some ⟨c, 0, none⟩)) (d := .lit (.int .i64 c)) (ps := []) rfl
  refine ⟨w', hr, ⟨_, h4, ?_, fun t ht => ?_⟩, h5⟩
  · obtain ⟨es, rfl⟩ := h2
    exact ⟨_, rfl⟩
  · by_cases e : t = s
    · subst e
      rw [atKey_put_same h2 (by trivial)]
      simp [dOf]
    · rw [atKey_put_other (by
        intro he
        apply e
        simp at he
        exact ByteArray.ext he), h3 t ht]
      simp [e]

/-- what stands ahead of a node's cells in its block: the count, in the first node's -/
def preK (cnt : Nat) (key : Key) : List Value := if key = [] then [.int .i64 cnt] else []
/-- a node's address -/
def adK (key : Key) (b : Nat) : Addr := ⟨b, (if key = [] then 1 else 0), none⟩
def ndC (cnt : Nat) (key : Key) (m p a b c : Value) : Array Value := (preK cnt key ++ [m, p, a, b, c]).toArray
/-- a row of entries in a node -/
def Row (w : World) (B : Nat) (es : List En) (ro : Nat → Option (Key × Nat)) (key : Key) (i : Nat) (v : Value) : Prop :=
  w.ownsRow B 133 2 v (slot En.l es key i).length ((slot En.l es key i).flatMap enC) ∧ ∀ g, v.ownBlock = some g → ro g = some (key, i)
/-- a node's map -/
def MapK (w : World) (nd : Key → Option Nat) (ro : Nat → Option (Key × Nat)) (c : Nat) (key : Key) (m : Option Nat) : Prop :=
  match m with
  | none => ∀ t, nd (key ++ [some t]) = none
  | some mb => ro mb = some (key, 1) ∧ MapN w mb c (fun t => nd (key ++ [some t]))
/-- a node -/
def Nd (w : World) (B cnt : Nat) (es : List En) (nd : Key → Option Nat) (ro : Nat → Option (Key × Nat)) (c : Nat) (key : Key) (b : Nat) : Prop :=
  ∃ m va vb vc ty, w.heap[b]? = some (.cells (ndC cnt key (.map m) (pOf (nd (key ++ [none]))) va vb vc) ty (0, 0)) ∧ ro b = some (key, 0) ∧ MapK w nd ro c key m ∧ Row w B es ro key 2 va ∧ Row w B es ro key 3 vb ∧ Row w B es ro key 4 vc
/-- the tree: nd: which nodes there are, and in which block; ro: what each block is for -/
structure Tr (B : Nat) (w0 : World) (T cnt : Nat) (es : List En) (nd : Key → Option Nat) (ro : Nat → Option (Key × Nat)) (c : Nat) (w : World) : Prop where
  node : ∀ key b, nd key = some b → Nd w B cnt es nd ro c key b
  fresh : ∀ b r, ro b = some r → B ≤ b ∧ b < w.heap.size
  root : nd [] = some T
  clos : ∀ key x, nd key = none → nd (key ++ [x]) = none
  cov : ∀ e ∈ es, nd (home e.l).1 ≠ none
  below : Below B w0 w
  size : B ≤ w.heap.size
  ent : ∀ e ∈ es, Gs w0 e.u e.l

theorem rowV_frame {w w' : World} {B e size n : Nat} {v : Value} {xs : List Value} (h : w.ownsRow B e size v n xs) (hb : ∀ g, v.ownBlock = some g → w'.heap[g]? = w.heap[g]?) : w'.ownsRow B e size v n xs := by
  refine ⟨h.1, ?_⟩
  rcases h.2 with hn | ⟨g, cap, cur, rfl, h1, h2, rest⟩
  · exact .inl hn
  · exact .inr ⟨g, cap, cur, rfl, h1, (hb g rfl).trans h2, rest⟩
section
variable {w w' w0 : World} {B T cnt : Nat} {es es' : List En} {nd nd' : Key → Option Nat} {ro ro' : Nat → Option (Key × Nat)} {c c' : Nat} {key : Key} {b : Nat}
theorem Row.frame {i : Nat} {v : Value} (h : Row w B es ro key i v) (hb : ∀ g i, ro g = some (key, i) → w'.heap[g]? = w.heap[g]?) (hr : ∀ g r, ro g = some r → ro' g = some r) (hs : slot En.l es' key i = slot En.l es key i) : Row w' B es' ro' key i v := by
  unfold Row
  rw [hs]
  exact ⟨rowV_frame h.1 fun g hg => hb g i (h.2 g hg), fun g hg => hr g _ (h.2 g hg)⟩
theorem MapK.frame {m : Option Nat} (h : MapK w nd ro c key m) (hb : ∀ g i, ro g = some (key, i) → w'.heap[g]? = w.heap[g]?) (hn : ∀ x, nd' (key ++ [x]) = nd (key ++ [x])) (hr : ∀ g r, ro g = some r → ro' g = some r) (hc : c ≤ c') : MapK w' nd' ro' c' key m := by
  cases m with
  | none => exact fun t => (hn _).trans (h t)
  | some mb => exact ⟨hr _ _ h.1, (h.2.frame (hb _ _ h.1) hc).congr fun t => hn _⟩
/-- a node that nothing touches -/
theorem Nd.frame (h : Nd w B cnt es nd ro c key b) (hb : ∀ g i, ro g = some (key, i) → w'.heap[g]? = w.heap[g]?) (hn : ∀ x, nd' (key ++ [x]) = nd (key ++ [x])) (hr : ∀ g r, ro g = some r → ro' g = some r)
    (hs : ∀ i, slot En.l es' key i = slot En.l es key i) (hc : c ≤ c') : Nd w' B cnt es' nd' ro' c' key b := by
  obtain ⟨m, va, vb, vc, ty, h1, h2, h3, h4, h5, h6⟩ := h
  refine ⟨m, va, vb, vc, ty, ?_, hr _ _ h2, h3.frame hb hn hr hc, h4.frame hb hr (hs _), h5.frame hb hr (hs _), h6.frame hb hr (hs _)⟩
  rw [hn]
  exact (hb _ _ h2).trans h1
/-- what leaves all that is there leaves the tree -/
theorem Tr.call (h : Tr B w0 T cnt es nd ro c w) (hb : Below w.heap.size w w') : Tr B w0 T cnt es nd ro c w' where
  node key b hk := (h.node key b hk).frame (fun g _ hg => hb.block g (h.fresh _ _ hg).2) (fun _ => rfl) (fun _ _ h => h) (fun _ => rfl) (Nat.le_refl _)
  fresh b r hr := ⟨(h.fresh b r hr).1, Nat.lt_of_lt_of_le (h.fresh b r hr).2 hb.size⟩
  root := h.root
  clos := h.clos
  cov := h.cov
  below := h.below.trans (hb.mono h.size)
  size := Nat.le_trans h.size hb.size
  ent := h.ent
/-- a step at one node: just its blocks turn, perhaps one new kid comes -/
theorem Tr.step (h : Tr B w0 T cnt es nd ro c w) (hk : nd key = some b) (x : Option ByteArray)
    (hblk : ∀ g, g < w.heap.size → (∀ i, ro g ≠ some (key, i)) → w'.heap[g]? = w.heap[g]?) (hsz : w.heap.size ≤ w'.heap.size) (hbl : Below B w0 w')
    (hnd : ∀ k, k ≠ key ++ [x] → nd' k = nd k) (hnx : nd (key ++ [x]) ≠ none → nd' (key ++ [x]) = nd (key ++ [x]))
    (hro : ∀ g r, ro g = some r → ro' g = some r) (hro' : ∀ g r, ro' g = some r → ro g = some r ∨ (w.heap.size ≤ g ∧ g < w'.heap.size))
    (hsl : ∀ k i, k ≠ key → slot En.l es' k i = slot En.l es k i) (hc : c ≤ c')
    (hself : Nd w' B cnt es' nd' ro' c' key b)
    (hnew : ∀ N, nd (key ++ [x]) = none → nd' (key ++ [x]) = some N → Nd w' B cnt es' nd' ro' c' (key ++ [x]) N)
    (hcov : ∀ e ∈ es', nd' (home e.l).1 ≠ none) (hent : ∀ e ∈ es', Gs w0 e.u e.l) : Tr B w0 T cnt es' nd' ro' c' w' where
  node k d hd := by
    by_cases e1 : k = key
    · subst e1
      have hne : k ≠ k ++ [x] := by
        intro h
        have := congrArg List.length h
        simp at this
      rw [hnd k hne, hk] at hd
      cases hd
      exact hself
    · by_cases e2 : k = key ++ [x]
      · subst e2
        by_cases e3 : nd (key ++ [x]) = none
        · exact hnew d e3 hd
        · rw [hnx e3] at hd
          exact (h.node _ _ hd).frame (fun g i hg => hblk g (h.fresh _ _ hg).2 (fun j hj => by rw [hg] at hj; exact e1 (Prod.mk.inj (Option.some.inj hj)).1)) (fun y => hnd _ (by
            intro h
            have := congrArg List.length h
            simp at this)) hro (fun i => hsl _ i e1) hc
      · rw [hnd k e2] at hd
        exact (h.node _ _ hd).frame (fun g i hg => hblk g (h.fresh _ _ hg).2 (fun j hj => by rw [hg] at hj; cases hj; exact e1 rfl)) (fun y => hnd _ (by
          intro h
          exact e1 (List.append_inj_left' h rfl))) hro (fun i => hsl _ i e1) hc
  fresh g r hg := by
    rcases hro' g r hg with h1 | ⟨h1, h2⟩
    · exact ⟨(h.fresh g r h1).1, Nat.lt_of_lt_of_le (h.fresh g r h1).2 hsz⟩
    · exact ⟨Nat.le_trans h.size h1, h2⟩
  root := by rw [hnd [] (by simp)]; exact h.root
  clos k y hn := by
    by_cases e : k ++ [y] = key ++ [x]
    · have := List.append_inj_left' e rfl
      subst this
      have hne : k ≠ k ++ [x] := by
        intro h
        have := congrArg List.length h
        simp at this
      rw [hnd k hne, hk] at hn
      cases hn
    · rw [hnd _ e]
      apply h.clos
      by_cases e2 : k = key ++ [x]
      · subst e2
        by_cases e3 : nd (key ++ [x]) = none
        · exact e3
        · rw [hnx e3] at hn
          exact absurd hn e3
      · rw [← hnd k e2]
        exact hn
  cov := hcov
  below := hbl
  size := Nat.le_trans h.size hsz
  ent := hent

/-- a function turned at one place -/
def upd {α β : Type} [DecidableEq α] (f : α → β) (a : α) (v : β) : α → β := fun x => if x = a then v else f x
theorem upd_same {α β : Type} [DecidableEq α] (f : α → β) (a : α) (v : β) : upd f a v a = v := if_pos rfl
theorem upd_other {α β : Type} [DecidableEq α] (f : α → β) (a : α) (v : β) {x : α} (h : x ≠ a) : upd f a v x = f x := if_neg h
theorem ndC_set (cnt : Nat) (key : Key) (m p x y z u : Value) :
    (ndC cnt key m p x y z).setIfInBounds (preK cnt key).length u = ndC cnt key u p x y z ∧ (ndC cnt key m p x y z).setIfInBounds ((preK cnt key).length + 1) u = ndC cnt key m u x y z ∧
    (ndC cnt key m p x y z).setIfInBounds ((preK cnt key).length + 2) u = ndC cnt key m p u y z ∧ (ndC cnt key m p x y z).setIfInBounds ((preK cnt key).length + 3) u = ndC cnt key m p x u z ∧
    (ndC cnt key m p x y z).setIfInBounds ((preK cnt key).length + 4) u = ndC cnt key m p x y u := by
  unfold ndC preK
  split <;> simp
theorem ndC_get (cnt : Nat) (key : Key) (m p x y z : Value) :
    (ndC cnt key m p x y z)[(preK cnt key).length]? = some m ∧ (ndC cnt key m p x y z)[(preK cnt key).length + 1]? = some p ∧
    (ndC cnt key m p x y z)[(preK cnt key).length + 2]? = some x ∧ (ndC cnt key m p x y z)[(preK cnt key).length + 3]? = some y ∧
    (ndC cnt key m p x y z)[(preK cnt key).length + 4]? = some z := by
  unfold ndC preK
  split <;> simp
theorem snoc_ne (k : Key) (x : Option ByteArray) : k ≠ k ++ [x] := by
  intro h
  have := congrArg List.length h
  simp at this
theorem snoc2_ne (k : Key) (x y : Option ByteArray) : k ++ [x] ++ [y] ≠ k ++ [x] := fun h => snoc_ne _ _ h.symm
def newC : Array Value := #[.map none, .pointer none, .slice none 0 0, .slice none 0 0, .slice none 0 0]
theorem Tr.slots (h : Tr B w0 T cnt es nd ro c w) {k : Key} (hn : nd k = none) (i : Nat) : slot En.l es k i = [] := by
  rw [List.eq_nil_iff_forall_not_mem]
  intro e he
  rw [mem_slot] at he
  have := h.cov e he.1
  rw [he.2] at this
  exact this hn
theorem row_none {i : Nat} (w : World) (hs : slot En.l es key i = []) : Row w B es ro key i (.slice none 0 0) := by
  unfold Row
  rw [hs]
  exact ⟨World.ownsRow_nil _ _ _ _, fun g hg => by cases hg⟩
/-- a new node -/
theorem nd_new {N ty : Nat} (hne : key ≠ []) (hb : w.heap[N]? = some (.cells newC ty (0, 0))) (hr : ro N = some (key, 0)) (hk : ∀ y, nd (key ++ [y]) = none) (hs : ∀ i, slot En.l es key i = []) : Nd w B cnt es nd ro c key N := by
  refine ⟨none, .slice none 0 0, .slice none 0 0, .slice none 0 0, ty, ?_, hr, fun t => hk _, row_none w (hs _), row_none w (hs _), row_none w (hs _)⟩
  rw [hk, hb, ndC, preK, if_neg hne]
  rfl
/-- the kid behind a parameter -/
theorem Tr.param (h : Tr B w0 T cnt es nd ro c w) (hk : nd key = some b) (hn : nd (key ++ [none]) = none) :
    Tr B w0 T cnt es (upd nd (key ++ [none]) (some w.heap.size)) (upd ro w.heap.size (some (key ++ [none], 0))) c ((w.alloc (.cells newC 127 (0, 0))).setCell ⟨b, (preK cnt key).length + 1, none⟩ (.pointer (some ⟨w.heap.size, 0, none⟩))) := by
  have hself := h.node _ _ hk
  obtain ⟨m, va, vb, vc, ty, h1, h2, h3, h4, h5, h6⟩ := hself
  have hfr : ∀ g r, ro g = some r → g ≠ w.heap.size := fun g r hg e => by have := (h.fresh g r hg).2; omega
  have hro : ∀ g r, ro g = some r → upd ro w.heap.size (some (key ++ [none], 0)) g = some r := fun g r hg => by rw [upd_other _ _ _ (hfr g r hg)]; exact hg
  have hblk : ∀ g, g < w.heap.size → g ≠ b → ((w.alloc (.cells newC 127 (0, 0))).setCell ⟨b, (preK cnt key).length + 1, none⟩ (.pointer (some ⟨w.heap.size, 0, none⟩))).heap[g]? = w.heap[g]? := fun g hg hne =>
    (Below.heap_setCell _ _ _ _ hne).trans (Below.heap_alloc _ _ _ hg)
  have hsz : ((w.alloc (.cells newC 127 (0, 0))).setCell ⟨b, (preK cnt key).length + 1, none⟩ (.pointer (some ⟨w.heap.size, 0, none⟩))).heap.size = w.heap.size + 1 := by simp [World.setCell]
  have hbB := (h.fresh b _ h2).1
  have hbb : ∀ g i, ro g = some (key, i) → i ≠ 0 → ((w.alloc (.cells newC 127 (0, 0))).setCell ⟨b, (preK cnt key).length + 1, none⟩ (.pointer (some ⟨w.heap.size, 0, none⟩))).heap[g]? = w.heap[g]? := fun g i hg hi =>
    hblk g (h.fresh _ _ hg).2 (fun e => by rw [e, h2] at hg; cases hg; exact hi rfl)
  have rf : ∀ i v, i ≠ 0 → Row w B es ro key i v → Row ((w.alloc (.cells newC 127 (0, 0))).setCell ⟨b, (preK cnt key).length + 1, none⟩ (.pointer (some ⟨w.heap.size, 0, none⟩))) B es (upd ro w.heap.size (some (key ++ [none], 0))) key i v := by
    intro i v hi hr
    exact ⟨rowV_frame hr.1 fun g hg => hbb g i (hr.2 g hg) hi, fun g hg => hro g _ (hr.2 g hg)⟩
  refine h.step hk none ?_ (by omega) ((h.below.alloc h.size _).setCell hbB _) (fun k hne => upd_other _ _ _ hne) (fun h' => absurd hn h') hro ?_ (fun _ _ _ => rfl) (Nat.le_refl _) ?_ ?_ ?_ h.ent
  · exact fun g hg hne => hblk g hg (fun e => hne 0 (by rw [e]; exact h2))
  · intro g r hg
    by_cases e : g = w.heap.size
    · exact Or.inr ⟨by omega, by omega⟩
    · rw [upd_other _ _ _ e] at hg
      exact Or.inl hg
  · refine ⟨m, va, vb, vc, ty, ?_, hro _ _ h2, ?_, rf 2 va (by decide) h4, rf 3 vb (by decide) h5, rf 4 vc (by decide) h6⟩
    · rw [blk_setCell (blk_alloc h1 _), (ndC_set _ _ _ _ _ _ _ _).2.1, upd_same]
      rfl
    · cases m with
      | none => exact fun t => by rw [upd_other _ _ _ (by intro e; have := List.append_inj_right' e rfl; cases this)]; exact h3 t
      | some mb => exact ⟨hro _ _ h3.1, (h3.2.frame (hbb _ _ h3.1 (by decide)) (Nat.le_refl _)).congr fun t => upd_other _ _ _ (by intro e; have := List.append_inj_right' e rfl; cases this)⟩
  · intro N _ hN
    rw [upd_same] at hN
    cases hN
    refine nd_new (ty := 127) (by simp) ?_ (upd_same _ _ _) (fun y => ?_) (h.slots hn)
    · exact (Below.heap_setCell _ _ _ _ (by have := (h.fresh b _ h2).2; show w.heap.size ≠ b; omega)).trans (blk_new _ _)
    · rw [upd_other _ _ _ (snoc2_ne _ _ _)]
      exact h.clos _ _ hn
  · intro e he
    by_cases e1 : (home e.l).1 = key ++ [none]
    · rw [e1, upd_same]; simp
    · rw [upd_other _ _ _ e1]; exact h.cov e he
/-- a node's map is made -/
theorem Tr.mapNew (h : Tr B w0 T cnt es nd ro c w) (hk : nd key = some b) (hm : w.cell? ⟨b, (preK cnt key).length, none⟩ = some (.map none)) :
    Tr B w0 T cnt es nd (upd ro w.heap.size (some (key, 1))) c ((w.alloc (.map #[] 0)).setCell ⟨b, (preK cnt key).length, none⟩ (.map (some w.heap.size))) := by
  have hself := h.node _ _ hk
  obtain ⟨m, va, vb, vc, ty, h1, h2, h3, h4, h5, h6⟩ := hself
  have hm0 : m = none := by
    rw [blk_cell h1, (ndC_get _ _ _ _ _ _ _).1] at hm
    cases hm
    rfl
  subst hm0
  have hfr : ∀ g r, ro g = some r → g ≠ w.heap.size := fun g r hg e => by have := (h.fresh g r hg).2; omega
  have hro : ∀ g r, ro g = some r → upd ro w.heap.size (some (key, 1)) g = some r := fun g r hg => by rw [upd_other _ _ _ (hfr g r hg)]; exact hg
  have hblk : ∀ g, g < w.heap.size → g ≠ b → ((w.alloc (.map #[] 0)).setCell ⟨b, (preK cnt key).length, none⟩ (.map (some w.heap.size))).heap[g]? = w.heap[g]? := fun g hg hne =>
    (Below.heap_setCell _ _ _ _ hne).trans (Below.heap_alloc _ _ _ hg)
  have hsz : ((w.alloc (.map #[] 0)).setCell ⟨b, (preK cnt key).length, none⟩ (.map (some w.heap.size))).heap.size = w.heap.size + 1 := by simp [World.setCell]
  have hbB := (h.fresh b _ h2).1
  have hblt := (h.fresh b _ h2).2
  have rf : ∀ i v, i ≠ 0 → Row w B es ro key i v → Row ((w.alloc (.map #[] 0)).setCell ⟨b, (preK cnt key).length, none⟩ (.map (some w.heap.size))) B es (upd ro w.heap.size (some (key, 1))) key i v := by
    intro i v hi hr
    exact ⟨rowV_frame hr.1 fun g hg => hblk g (h.fresh _ _ (hr.2 g hg)).2 (fun e => by have := hr.2 g hg; rw [e, h2] at this; cases this; exact hi rfl), fun g hg => hro g _ (hr.2 g hg)⟩
  refine h.step hk none ?_ (by omega) ((h.below.alloc h.size _).setCell hbB _) (fun _ _ => rfl) (fun _ => rfl) hro ?_ (fun _ _ _ => rfl) (Nat.le_refl _) ?_ ?_ h.cov h.ent
  · exact fun g hg hne => hblk g hg (fun e => hne 0 (by rw [e]; exact h2))
  · intro g r hg
    by_cases e : g = w.heap.size
    · exact Or.inr ⟨by omega, by omega⟩
    · rw [upd_other _ _ _ e] at hg
      exact Or.inl hg
  · refine ⟨some w.heap.size, va, vb, vc, ty, ?_, hro _ _ h2, ⟨upd_same _ _ _, ?_⟩, rf 2 va (by decide) h4, rf 3 vb (by decide) h5, rf 4 vc (by decide) h6⟩
    · rw [blk_setCell (blk_alloc h1 _), (ndC_set _ _ _ _ _ _ _ _).1]
    · refine ((mapN_new w).frame (n' := c) (Below.heap_setCell _ _ _ _ ?_) (Nat.zero_le _)).congr h3
      show w.heap.size ≠ b
      omega
  · intro N e1 e2
    rw [e1] at e2
    cases e2
/-- the kid behind a text -/
theorem Tr.static (h : Tr B w0 T cnt es nd ro c w) (hk : nd key = some b) {s : ByteArray} (hn : nd (key ++ [some s]) = none) (hs : s.size ≤ maxLen) (hc : c < maxLen) {mb : Nat} (hm : w.cell? ⟨b, (preK cnt key).length, none⟩ = some (.map (some mb))) :
    ∃ w', (Instr.mapUpdate 123 (.map (some mb)) (.string s) (.pointer (some ⟨w.heap.size, 0, none⟩))).run Tryz.prog (w.alloc (.cells newC 127 (0, 0))) = .ok () w' ∧
      Tr B w0 T cnt es (upd nd (key ++ [some s]) (some w.heap.size)) (upd ro w.heap.size (some (key ++ [some s], 0))) (c + 1) w' ∧ (w.alloc (.cells newC 127 (0, 0))).grownBy w' (some mb) := by
  have hself := h.node _ _ hk
  obtain ⟨m, va, vb, vc, ty, h1, h2, h3, h4, h5, h6⟩ := hself
  have hm0 : m = some mb := by
    rw [blk_cell h1, (ndC_get _ _ _ _ _ _ _).1] at hm
    cases hm
    rfl
  subst hm0
  have hmb : ro mb = some (key, 1) := h3.1
  have hmblt := (h.fresh mb _ hmb).2
  obtain ⟨w', hr, hM, hg⟩ := MapN.put (h3.2.frame (w' := w.alloc (.cells newC 127 (0, 0))) (Below.heap_alloc _ _ _ hmblt) (Nat.le_refl _)) s hs hc w.heap.size
  refine ⟨w', hr, ?_, hg⟩
  have hfr : ∀ g r, ro g = some r → g ≠ w.heap.size := fun g r hg e => by have := (h.fresh g r hg).2; omega
  have hro : ∀ g r, ro g = some r → upd ro w.heap.size (some (key ++ [some s], 0)) g = some r := fun g r hg => by rw [upd_other _ _ _ (hfr g r hg)]; exact hg
  have hsz : w.heap.size + 1 ≤ w'.heap.size := by have := hg.size; simpa using this
  have hblk : ∀ g, g < w.heap.size → g ≠ mb → w'.heap[g]? = w.heap[g]? := fun g hg' hne =>
    (hg.block g (by simp; omega) (by simpa using hne)).trans (Below.heap_alloc _ _ _ hg')
  have hmB := (h.fresh mb _ hmb).1
  have rf : ∀ i v, i ≠ 1 → Row w B es ro key i v → Row w' B es (upd ro w.heap.size (some (key ++ [some s], 0))) key i v := by
    intro i v hi hr
    exact ⟨rowV_frame hr.1 fun g hg => hblk g (h.fresh _ _ (hr.2 g hg)).2 (fun e => by have := hr.2 g hg; rw [e, hmb] at this; cases this; exact hi rfl), fun g hg => hro g _ (hr.2 g hg)⟩
  refine h.step hk (some s) ?_ (by omega) ((h.below.alloc h.size _).grown hg (by have := h.size; simp; omega) (fun k hk => by cases hk; exact hmB)) (fun k hne => upd_other _ _ _ hne) (fun h' => absurd hn h') hro ?_ (fun _ _ _ => rfl) (Nat.le_succ _) ?_ ?_ ?_ h.ent
  · exact fun g hg hne => hblk g hg (fun e => hne 1 (by rw [e]; exact hmb))
  · intro g r hg
    by_cases e : g = w.heap.size
    · exact Or.inr ⟨by omega, by omega⟩
    · rw [upd_other _ _ _ e] at hg
      exact Or.inl hg
  · refine ⟨some mb, va, vb, vc, ty, ?_, hro _ _ h2, ⟨hro _ _ hmb, ?_⟩, rf 2 va (by decide) h4, rf 3 vb (by decide) h5, rf 4 vc (by decide) h6⟩
    · rw [hblk b (h.fresh b _ h2).2 (fun e => by rw [e, hmb] at h2; cases h2), h1, upd_other _ _ _ (by intro e; have := List.append_inj_right' e rfl; cases this)]
    · refine hM.congr fun t => ?_
      by_cases e : t = s
      · subst e
        rw [upd_same, if_pos rfl]
      · rw [upd_other _ _ _ (by intro e1; have := List.append_inj_right' e1 rfl; simp at this; exact e this), if_neg e]
  · intro N _ hN
    rw [upd_same] at hN
    cases hN
    refine nd_new (ty := 127) (by simp) ?_ (upd_same _ _ _) (fun y => ?_) (h.slots hn)
    · exact (hg.block _ (by simp) (by simp; omega)).trans (blk_new _ _)
    · rw [upd_other _ _ _ (snoc2_ne _ _ _)]
      exact h.clos _ _ hn
  · intro e he
    by_cases e1 : (home e.l).1 = key ++ [some s]
    · rw [e1, upd_same]; simp
    · rw [upd_other _ _ _ e1]; exact h.cov e he
theorem slot_snoc (es : List En) (e : En) (k : Key) (i : Nat) : slot En.l (es ++ [e]) k i = slot En.l es k i ++ (if home e.l = (k, i) then [e] else []) := by
  unfold slot
  rw [List.filter_append]
  congr 1
  by_cases h : home e.l = (k, i) <;> simp [h]
/-- an entry more in a row of a node -/
theorem Tr.entry (h : Tr B w0 T cnt es nd ro c w) (hk : nd key = some b) {i : Nat} {v : Value} (hi : i = 2 ∨ i = 3 ∨ i = 4) (hv : w.cell? ⟨b, (preK cnt key).length + i, none⟩ = some v) {e : En} (he : home e.l = (key, i)) (hge : Gs w0 e.u e.l) :
    w.ownsRow B 133 2 v (slot En.l es key i).length ((slot En.l es key i).flatMap enC) ∧ ∀ v' w', w'.ownsRow B 133 2 v' ((slot En.l es key i).length + 1) ((slot En.l es key i).flatMap enC ++ enC e) → w.grownBy w' v.ownBlock → (v'.ownBlock = v.ownBlock ∨ v'.ownBlock = some w.heap.size) →
      ∃ ro', Tr B w0 T cnt (es ++ [e]) nd ro' c (w'.setCell ⟨b, (preK cnt key).length + i, none⟩ v') ∧ ∀ g, g < w.heap.size → ro g = none → ro' g = none ∧ (w'.setCell ⟨b, (preK cnt key).length + i, none⟩ v').heap[g]? = w.heap[g]? := by
  have hself := h.node _ _ hk
  obtain ⟨m, va, vb, vc, ty, h1, h2, h3, h4, h5, h6⟩ := hself
  have hrow : Row w B es ro key i v := by
    have g := ndC_get cnt key (.map m) (pOf (nd (key ++ [none]))) va vb vc
    rw [blk_cell h1] at hv
    rcases hi with rfl | rfl | rfl
    · rw [g.2.2.1] at hv; cases hv; exact h4
    · rw [g.2.2.2.1] at hv; cases hv; exact h5
    · rw [g.2.2.2.2] at hv; cases hv; exact h6
  refine ⟨hrow.1, fun v' w' ho hg hor => ?_⟩
  have hb0 : i ≠ 0 := by omega
  have hvb : ∀ g, v.ownBlock = some g → g ≠ b := fun g hg' e1 => by
    have := hrow.2 g hg'
    rw [e1, h2] at this
    cases this
    exact hb0 rfl
  have hblt := (h.fresh b _ h2).2
  have hbB := (h.fresh b _ h2).1
  have hsz : (w'.setCell ⟨b, (preK cnt key).length + i, none⟩ v').heap.size = w'.heap.size := by simp [World.setCell]
  have hblk : ∀ g, g < w.heap.size → g ≠ b → v.ownBlock ≠ some g → (w'.setCell ⟨b, (preK cnt key).length + i, none⟩ v').heap[g]? = w.heap[g]? := fun g hg' h1' h2' =>
    (Below.heap_setCell _ _ _ _ h1').trans (hg.block g hg' (fun e => h2' e.symm))
  have hblt' : ∀ g, v'.ownBlock = some g → g < w'.heap.size := fun g hg' => (ho.lt g hg').2
  have hv'b : ∀ g, v'.ownBlock = some g → g ≠ b := fun g hg' => by
    rcases hor with e1 | e1
    · rw [e1] at hg'; exact hvb g hg'
    · rw [e1] at hg'; cases hg'; omega
  have hfr : ∀ g r, ro g = some r → g ≠ w.heap.size := fun g r hg e => by have := (h.fresh g r hg).2; omega
  obtain ⟨ro', r1, r2, r3⟩ : ∃ ro' : Nat → Option (Key × Nat), (∀ g r, ro g = some r → ro' g = some r) ∧ (∀ g r, ro' g = some r → ro g = some r ∨ (w.heap.size ≤ g ∧ g < w'.heap.size)) ∧ (∀ g, v'.ownBlock = some g → ro' g = some (key, i)) := by
    rcases hor with e1 | e1
    · exact ⟨ro, fun _ _ h => h, fun _ _ h => Or.inl h, fun g hg' => hrow.2 g (by rw [← e1]; exact hg')⟩
    · refine ⟨upd ro w.heap.size (some (key, i)), fun g r hg' => by rw [upd_other _ _ _ (hfr g r hg')]; exact hg', fun g r hg' => ?_, fun g hg' => ?_⟩
      · by_cases e2 : g = w.heap.size
        · subst e2
          exact Or.inr ⟨Nat.le_refl _, hblt' _ e1⟩
        · rw [upd_other _ _ _ e2] at hg'
          exact Or.inl hg'
      · rw [e1] at hg'
        cases hg'
        exact upd_same _ _ _
  have rf : ∀ j u, j ≠ 0 → j ≠ i → Row w B es ro key j u → Row (w'.setCell ⟨b, (preK cnt key).length + i, none⟩ v') B (es ++ [e]) ro' key j u := by
    intro j u hj hji hr
    unfold Row
    rw [slot_snoc, if_neg (by rw [he]; intro e1; cases e1; exact hji rfl), List.append_nil]
    refine ⟨rowV_frame hr.1 fun g hg' => hblk g (h.fresh _ _ (hr.2 g hg')).2 (fun e1 => by have := hr.2 g hg'; rw [e1, h2] at this; cases this; exact hj rfl) (fun e1 => by have := hr.2 g hg'; rw [hrow.2 g e1] at this; cases this; exact hji rfl), fun g hg' => r1 g _ (hr.2 g hg')⟩
  have rn : Row (w'.setCell ⟨b, (preK cnt key).length + i, none⟩ v') B (es ++ [e]) ro' key i v' := by
    unfold Row
    rw [slot_snoc, if_pos he, List.length_append, List.flatMap_append]
    refine ⟨rowV_frame (w := w') ?_ fun g hg' => Below.heap_setCell _ _ _ _ (hv'b g hg'), r3⟩
    simpa using ho
  have hB1 : w'.heap[b]? = w.heap[b]? := hg.block b hblt (fun e1 => hvb b e1.symm rfl)
  refine ⟨ro', h.step hk none ?_ (by rw [hsz]; exact hg.size) ((h.below.grown hg h.size (fun k hk' => (hrow.1.lt k hk').1)).setCell hbB _) (fun _ _ => rfl) (fun _ => rfl) r1 (by rw [hsz]; exact r2) ?_ (Nat.le_refl _) ?_ ?_ ?_ ?_, fun g hg' hr => ⟨?_, hblk g hg' (fun e1 => by rw [e1, h2] at hr; cases hr) (fun e1 => by rw [hrow.2 g e1] at hr; cases hr)⟩⟩
  · exact fun g hg' hne => hblk g hg' (fun e1 => hne 0 (by rw [e1]; exact h2)) (fun e1 => hne i (hrow.2 g e1))
  · intro k j hkk
    rw [slot_snoc, if_neg (by rw [he]; intro e1; cases e1; exact hkk rfl), List.append_nil]
  · have hm' : MapK (w'.setCell ⟨b, (preK cnt key).length + i, none⟩ v') nd ro' c key m := by
      cases m with
      | none => exact h3
      | some mb => exact ⟨r1 _ _ h3.1, h3.2.frame (hblk mb (h.fresh _ _ h3.1).2 (fun e1 => by have := h3.1; rw [e1, h2] at this; cases this) (fun e1 => by have := h3.1; rw [hrow.2 mb e1] at this; cases this; omega)) (Nat.le_refl _)⟩
    have st := ndC_set cnt key (.map m) (pOf (nd (key ++ [none]))) va vb vc v'
    rcases hi with rfl | rfl | rfl
    · refine ⟨m, v', vb, vc, ty, ?_, r1 _ _ h2, hm', rn, rf 3 vb (by decide) (by decide) h5, rf 4 vc (by decide) (by decide) h6⟩
      rw [blk_setCell (hB1.trans h1), st.2.2.1]
    · refine ⟨m, va, v', vc, ty, ?_, r1 _ _ h2, hm', rf 2 va (by decide) (by decide) h4, rn, rf 4 vc (by decide) (by decide) h6⟩
      rw [blk_setCell (hB1.trans h1), st.2.2.2.1]
    · refine ⟨m, va, vb, v', ty, ?_, r1 _ _ h2, hm', rf 2 va (by decide) (by decide) h4, rf 3 vb (by decide) (by decide) h5, rn⟩
      rw [blk_setCell (hB1.trans h1), st.2.2.2.2]
  · intro N e1 e2
    rw [e1] at e2
    cases e2
  · intro x hx
    rw [List.mem_append] at hx
    rcases hx with hx | hx
    · exact h.cov x hx
    · simp at hx
      subst hx
      rw [he, hk]
      simp
  · intro x hx
    rw [List.mem_append] at hx
    rcases hx with hx | hx
    · exact h.ent x hx
    · simp at hx
      subst hx
      exact hge
  · rcases h' : ro' g with _ | r'
    · rfl
    · rcases r2 g r' h' with e1 | e1
      · rw [hr] at e1
        cases e1
      · omega
end
end Go.Proofs.YthigandmemifoaaGreatDoor
