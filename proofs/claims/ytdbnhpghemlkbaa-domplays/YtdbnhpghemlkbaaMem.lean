/-
  A dom in memory: its block, the block of its nodes, its row of freed numbers, each node's row of kids and its attributes; what stores make of it. The program's own dom and the reference's.
-/
import Derived.Test.YtdbnhpghemlkbaaKp
import Derived.Test.YtdbnhpghemlkbaaDm
import Derived.Test.YtdbnhpghemlkbaaRows
import Derived.PlainAid
import Derived.OwnWalk
import Derived.Maps.AppendAt
namespace Go.Proofs.Ytdbnhpghemlkbaa
open Go.RowKit Go.PlainAid Dm
set_option maxRecDepth 100000

def niC (l : List Nat) : List Value := l.map (fun x : Nat => Value.int .i64 (x : Int))
def atC (p : Tx × Tx) : List Value := [.string p.1, .string p.2]
/-- what each block is for: 0 none of ours, 1 the dom, 2 nodes, 3 freed, 4 attributes, 5 + i the kids of i -/
abbrev Ros := Nat → Nat
def RowI (ro : Ros) (w : World) (v : Value) (l : List Nat) (r : Nat) : Prop := w.ownsRow 0 3 1 v l.length (niC l) ∧ ∀ g, v.ownBlock = some g → ro g = r
def Ats (ro : Ros) (w : World) (v : Value) (l : List (Tx × Tx)) : Prop := w.ownsRow 0 45 2 v l.length (l.flatMap atC) ∧ ∀ g, v.ownBlock = some g → ro g = 4

theorem owns_same {w w' : World} {e : TypeId} {size n : Nat} {v : Value} {xs : List Value} (h : w.ownsRow 0 e size v n xs) (hs : ∀ g, v.ownBlock = some g → w'.heap[g]? = w.heap[g]?) : w'.ownsRow 0 e size v n xs := by
  refine ⟨h.1, ?_⟩
  rcases h.2 with hn | ⟨g, cap, cur, rfl, hb, hgg, rest⟩
  · exact .inl hn
  · exact .inr ⟨g, cap, cur, rfl, hb, (hs g rfl).trans hgg, rest⟩
theorem RowI.same {ro ro' : Ros} {w w' : World} {v : Value} {l : List Nat} {r : Nat} (h : RowI ro w v l r) (hr : ∀ k, ro k = r → ro' k = r) (hs : ∀ k, ro k = r → w'.heap[k]? = w.heap[k]?) : RowI ro' w' v l r :=
  ⟨owns_same h.1 (fun g hg => hs g (h.2 g hg)), fun g hg => hr g (h.2 g hg)⟩
theorem Ats.same {ro ro' : Ros} {w w' : World} {v : Value} {l : List (Tx × Tx)} (h : Ats ro w v l) (hr : ∀ k, ro k = 4 → ro' k = 4) (hs : ∀ k, ro k = 4 → w'.heap[k]? = w.heap[k]?) : Ats ro' w' v l :=
  ⟨owns_same h.1 (fun g hg => hs g (h.2 g hg)), fun g hg => hr g (h.2 g hg)⟩
theorem rowI_nil (ro : Ros) (w : World) (r : Nat) : RowI ro w (.slice none 0 0) [] r := ⟨World.ownsRow_nil _ _ _ _, fun g hg => by cases hg⟩
theorem ats_nil (ro : Ros) (w : World) : Ats ro w (.slice none 0 0) [] := ⟨World.ownsRow_nil _ _ _ _, fun g hg => by cases hg⟩

/-- the program's dom, or the reference's -/
structure Mo where
  tN : TypeId
  tD : TypeId
  fst : Nd → Value
def kindI (n : Nd) : Int := if n.live = false then 0 else if n.tag = ⟨#[]⟩ then 2 else 1
def mP : Mo := ⟨60, 63, fun n => .int .i64 (kindI n)⟩
def mR : Mo := ⟨74, 77, fun n => .bool n.live⟩
/-- a node's cells -/
def ndC (M : Mo) (n : Nd) (av kv : Value) : List Value := [M.fst n, .string n.tag, .string n.key, .string n.text, av, .int .i64 n.par, kv]

structure Rel (M : Mo) (ro : Ros) (w : World) (D N c : Nat) (fv : Value) (av kv : Nat → Value) (s : St) : Prop where
  rD : ro D = 1
  bD : w.heap[D]? = some (.cells #[.slice (some ⟨N, 0, none⟩) (s.top + 1) c, fv] M.tD (0, 0))
  rN : ro N = 2
  bN : ∃ cur, w.heap[N]? = some (.cells cur M.tN (0, 0)) ∧ cur.size = c * 7 ∧ ∀ i, i ≤ s.top → ∀ j, j < 7 → cur[i * 7 + j]? = (ndC M (s.nd i) (av i) (kv i))[j]?
  cap : s.top + 1 ≤ c ∧ c ≤ maxLen
  fr : RowI ro w fv s.freed.reverse 3
  ats : ∀ i, i ≤ s.top → Ats ro w (av i) (s.nd i).attrs
  ki : ∀ i, i ≤ s.top → RowI ro w (kv i) (s.nd i).kids (5 + i)
  lt : ∀ k, ro k ≠ 0 → k < w.heap.size

section
variable {M : Mo} {ro : Ros} {w : World} {D N c : Nat} {fv : Value} {av kv : Nat → Value} {s : St}
theorem Rel.of_same (h : Rel M ro w D N c fv av kv s) {w' : World} (hz : w.heap.size ≤ w'.heap.size) (hs : ∀ k, ro k ≠ 0 → w'.heap[k]? = w.heap[k]?) : Rel M ro w' D N c fv av kv s := by
  have hD := hs D (by rw [h.rD]; decide)
  have hN := hs N (by rw [h.rN]; decide)
  obtain ⟨cur, h1, h2⟩ := h.bN
  exact ⟨h.rD, hD.trans h.bD, h.rN, ⟨cur, hN.trans h1, h2⟩, h.cap, h.fr.same (fun _ e => e) (fun k e => hs k (by omega)), fun i hi => (h.ats i hi).same (fun _ e => e) (fun k e => hs k (by omega)), fun i hi => (h.ki i hi).same (fun _ e => e) (fun k e => hs k (by omega)), fun k hk => Nat.lt_of_lt_of_le (h.lt k hk) hz⟩
theorem Rel.call (h : Rel M ro w D N c fv av kv s) {w' : World} (hb : Below w.heap.size w w') : Rel M ro w' D N c fv av kv s :=
  h.of_same hb.size (fun k hk => hb.block k (h.lt k hk))
theorem Rel.alloc (h : Rel M ro w D N c fv av kv s) (o : Obj) : Rel M ro (w.alloc o) D N c fv av kv s := h.call ((Below.refl _ w).alloc (Nat.le_refl _) o)
theorem Rel.drew (h : Rel M ro w D N c fv av kv s) : Rel M ro w.drew D N c fv av kv s := h.call (Below.refl _ w).drew
theorem Rel.c0 (h : Rel M ro w D N c fv av kv s) : w.cell? ⟨D, 0, none⟩ = some (.slice (some ⟨N, 0, none⟩) (s.top + 1) c) := by rw [blk_cell h.bD]; rfl
theorem Rel.c1 (h : Rel M ro w D N c fv av kv s) : w.cell? ⟨D, 1, none⟩ = some fv := by rw [blk_cell h.bD]; rfl
theorem Rel.f0 (h : Rel M ro w D N c fv av kv s) (o : Nat) : w.frozen? ⟨D, o, none⟩ = false := blk_frozen h.bD o
theorem Rel.nf (h : Rel M ro w D N c fv av kv s) (o : Nat) : w.frozen? ⟨N, o, none⟩ = false := by
  obtain ⟨cur, h1, _⟩ := h.bN
  exact blk_frozen h1 o
theorem Rel.nc (h : Rel M ro w D N c fv av kv s) {i : Nat} (hi : i ≤ s.top) :
    w.cell? ⟨N, i * 7, none⟩ = some (M.fst (s.nd i)) ∧ w.cell? ⟨N, i * 7 + 1, none⟩ = some (.string (s.nd i).tag) ∧ w.cell? ⟨N, i * 7 + 2, none⟩ = some (.string (s.nd i).key) ∧ w.cell? ⟨N, i * 7 + 3, none⟩ = some (.string (s.nd i).text) ∧
    w.cell? ⟨N, i * 7 + 4, none⟩ = some (av i) ∧ w.cell? ⟨N, i * 7 + 5, none⟩ = some (.int .i64 (s.nd i).par) ∧ w.cell? ⟨N, i * 7 + 6, none⟩ = some (kv i) := by
  obtain ⟨cur, h1, h2, h3⟩ := h.bN
  have key : ∀ j, j < 7 → w.cell? ⟨N, i * 7 + j, none⟩ = (ndC M (s.nd i) (av i) (kv i))[j]? := fun j hj => by rw [blk_cell h1]; exact h3 i hi j hj
  exact ⟨key 0 (by omega), key 1 (by omega), key 2 (by omega), key 3 (by omega), key 4 (by omega), key 5 (by omega), key 6 (by omega)⟩
theorem Rel.dn (h : Rel M ro w D N c fv av kv s) : D ≠ N := fun e => by
  have h1 := h.rD
  have h2 := h.rN
  rw [e] at h1
  omega
theorem Rel.dlt (h : Rel M ro w D N c fv av kv s) : D < w.heap.size := blk_lt h.bD
theorem Rel.nlt (h : Rel M ro w D N c fv av kv s) : N < w.heap.size := by obtain ⟨cur, h1, _⟩ := h.bN; exact blk_lt h1

def up (f : Nat → Value) (i : Nat) (v : Value) : Nat → Value := fun j => if j = i then v else f j
theorem up_same (f : Nat → Value) (i : Nat) (v : Value) : up f i v i = v := by simp [up]
theorem up_ne (f : Nat → Value) {i j : Nat} (v : Value) (h : j ≠ i) : up f i v j = f j := by simp [up, h]

/-- a node turned -/
theorem Rel.node (h : Rel M ro w D N c fv av kv s) {i : Nat} (hi : i ≤ s.top) (n : Nd) (a' k' : Value) (ro' : Ros) (w' : World)
    (hro : ∀ k, ro k ≠ 0 → ro' k = ro k) (hlt : ∀ k, ro' k ≠ 0 → k < w'.heap.size)
    (hN : ∀ cur, w.heap[N]? = some (.cells cur M.tN (0, 0)) → cur.size = c * 7 → (∀ j, j < 7 → cur[i * 7 + j]? = (ndC M (s.nd i) (av i) (kv i))[j]?) → ∃ cur', w'.heap[N]? = some (.cells cur' M.tN (0, 0)) ∧ cur'.size = c * 7 ∧ (∀ x, (x < i * 7 ∨ i * 7 + 7 ≤ x) → cur'[x]? = cur[x]?) ∧ ∀ j, j < 7 → cur'[i * 7 + j]? = (ndC M n a' k')[j]?)
    (ho : ∀ k, k ≠ N → ro k ≠ 0 → ro k ≠ 5 + i → w'.heap[k]? = w.heap[k]?)
    (ha : Ats ro' w' a' n.attrs) (hk : RowI ro' w' k' n.kids (5 + i)) : Rel M ro' w' D N c fv (up av i a') (up kv i k') (s.put i n) := by
  have hD := ho D h.dn (by rw [h.rD]; decide) (by rw [h.rD]; omega)
  obtain ⟨cur, h1, h2, h3⟩ := h.bN
  obtain ⟨cur', g1, g2, g3, g4⟩ := hN cur h1 h2 (h3 i hi)
  have hNN : ∀ k, ro k ≠ 2 → k ≠ N := fun k hk e => hk (e ▸ h.rN)
  refine ⟨(hro D (by rw [h.rD]; decide)).trans h.rD, hD.trans h.bD, (hro N (by rw [h.rN]; decide)).trans h.rN, ⟨cur', g1, g2, fun i' hi' j hj => ?_⟩, h.cap, ?_, fun i' hi' => ?_, fun i' hi' => ?_, hlt⟩
  · by_cases e : i' = i
    · subst e
      rw [St.put_same, up_same, up_same]
      exact g4 j hj
    · rw [St.put_ne s n e, up_ne _ _ e, up_ne _ _ e, g3 _ (by omega)]
      exact h3 i' hi' j hj
  · exact h.fr.same (fun k e => (hro k (by omega)).trans e) (fun k e => ho k (hNN k (by omega)) (by omega) (by omega))
  · by_cases e : i' = i
    · subst e
      rw [St.put_same, up_same]
      exact ha
    · rw [St.put_ne s n e, up_ne _ _ e]
      exact (h.ats i' hi').same (fun k e => (hro k (by omega)).trans e) (fun k e => ho k (hNN k (by omega)) (by omega) (by omega))
  · by_cases e : i' = i
    · subst e
      rw [St.put_same, up_same]
      exact hk
    · rw [St.put_ne s n e, up_ne _ _ e]
      exact (h.ki i' hi').same (fun k e => (hro k (by omega)).trans e) (fun k e => ho k (hNN k (by omega)) (by omega) (by omega))

/-- one cell of a node stored -/
theorem Rel.cell (h : Rel M ro w D N c fv av kv s) {i : Nat} (hi : i ≤ s.top) (n : Nd) (a' k' : Value) (ro' : Ros) (w1 : World) (j0 : Nat) (u : Value)
    (hro : ∀ k, ro k ≠ 0 → ro' k = ro k) (hlt : ∀ k, ro' k ≠ 0 → k < w1.heap.size)
    (h1 : w1.heap[N]? = w.heap[N]?) (ho : ∀ k, ro k ≠ 0 → ro k ≠ 5 + i → w1.heap[k]? = w.heap[k]?)
    (hj0 : j0 < 7) (hu : (ndC M n a' k')[j0]? = some u) (hn : ∀ j, j < 7 → j ≠ j0 → (ndC M n a' k')[j]? = (ndC M (s.nd i) (av i) (kv i))[j]?)
    (ha : Ats ro' w1 a' n.attrs) (hk : RowI ro' w1 k' n.kids (5 + i)) : Rel M ro' (w1.setCell ⟨N, i * 7 + j0, none⟩ u) D N c fv (up av i a') (up kv i k') (s.put i n) := by
  have hrN : ro' N = 2 := (hro N (by rw [h.rN]; decide)).trans h.rN
  refine h.node hi n a' k' ro' _ hro (fun k hk => by simpa [World.setCell] using hlt k hk) (fun cur e1 e2 e3 => ?_) (fun k hkN hk0 hk5 => (Below.heap_setCell w1 _ u k hkN).trans (ho k hk0 hk5)) ?_ ?_
  · refine ⟨_, blk_setCell (h1.trans e1) _ u, by simpa using e2, fun x hx => ?_, fun j hj => ?_⟩
    · rw [Array.getElem?_setIfInBounds_ne (by omega)]
    · by_cases e : j = j0
      · subst e
        have hc := h.cap
        rw [Array.getElem?_setIfInBounds_self_of_lt (by omega), hu]
      · rw [Array.getElem?_setIfInBounds_ne (by omega), hn j hj e]
        exact e3 j hj
  · exact ha.same (fun _ e => e) (fun k e => Below.heap_setCell w1 _ u k (fun x => by rw [x, hrN] at e; cases e))
  · exact hk.same (fun _ e => e) (fun k e => Below.heap_setCell w1 _ u k (fun x => by rw [x, hrN] at e; omega))

/-- the freed ones turned -/
theorem Rel.freed (h : Rel M ro w D N c fv av kv s) (l : List Nat) (v' : Value) (ro' : Ros) (w1 : World)
    (hro : ∀ k, ro k ≠ 0 → ro' k = ro k) (hlt : ∀ k, ro' k ≠ 0 → k < w1.heap.size)
    (ho : ∀ k, ro k ≠ 0 → ro k ≠ 3 → w1.heap[k]? = w.heap[k]?) (hv : RowI ro' w1 v' l.reverse 3) : Rel M ro' (w1.setCell ⟨D, 1, none⟩ v') D N c v' av kv { s with freed := l } := by
  have hrD : ro' D = 1 := (hro D (by rw [h.rD]; decide)).trans h.rD
  have hD := (ho D (by rw [h.rD]; decide) (by rw [h.rD]; decide)).trans h.bD
  have hDD : ∀ k, ro k ≠ 1 → k ≠ D := fun k hk e => hk (e ▸ h.rD)
  have hs : ∀ k, k ≠ D → ro k ≠ 0 → ro k ≠ 3 → (w1.setCell ⟨D, 1, none⟩ v').heap[k]? = w.heap[k]? := fun k a b e => (Below.heap_setCell w1 _ v' k a).trans (ho k b e)
  obtain ⟨cur, h1, h2⟩ := h.bN
  refine ⟨hrD, by rw [blk_setCell hD 1 v']; rfl, (hro N (by rw [h.rN]; decide)).trans h.rN, ⟨cur, (hs N (Ne.symm h.dn) (by rw [h.rN]; decide) (by rw [h.rN]; decide)).trans h1, h2⟩, h.cap, ?_, fun i hi => ?_, fun i hi => ?_, fun k hk => by simpa [World.setCell] using hlt k hk⟩
  · exact hv.same (fun _ e => e) (fun k e => Below.heap_setCell w1 _ v' k (fun x => by rw [x, hrD] at e; cases e))
  · exact (h.ats i hi).same (fun k e => (hro k (by omega)).trans e) (fun k e => hs k (hDD k (by omega)) (by omega) (by omega))
  · exact (h.ki i hi).same (fun k e => (hro k (by omega)).trans e) (fun k e => hs k (hDD k (by omega)) (by omega) (by omega))

/-- one node more: behind the append that made room for it -/
theorem Rel.push (h : Rel M ro w D N c fv av kv s) (n : Nd) (ha : n.attrs = []) (hk : n.kids = []) (N' c' : Nat) (ro' : Ros) (w1 : World) (cur' : Array Value)
    (hro : ∀ k, ro k ≠ 0 → ro' k = ro k) (hlt : ∀ k, ro' k ≠ 0 → k < w1.heap.size) (hrN : ro' N' = 2)
    (ho : ∀ k, ro k ≠ 0 → ro k ≠ 2 → w1.heap[k]? = w.heap[k]?)
    (hN : w1.heap[N']? = some (.cells cur' M.tN (0, 0))) (hz : cur'.size = c' * 7) (hc : s.top + 2 ≤ c') (hm : c' ≤ maxLen)
    (hold : ∀ i, i ≤ s.top → ∀ j, j < 7 → cur'[i * 7 + j]? = (ndC M (s.nd i) (av i) (kv i))[j]?)
    (hnew : ∀ j, j < 7 → cur'[(s.top + 1) * 7 + j]? = (ndC M n (.slice none 0 0) (.slice none 0 0))[j]?) :
    Rel M ro' (w1.setCell ⟨D, 0, none⟩ (.slice (some ⟨N', 0, none⟩) (s.top + 2) c')) D N' c' fv (up av (s.top + 1) (.slice none 0 0)) (up kv (s.top + 1) (.slice none 0 0)) { s.put (s.top + 1) n with top := s.top + 1 } := by
  have hrD : ro' D = 1 := (hro D (by rw [h.rD]; decide)).trans h.rD
  have hD := (ho D (by rw [h.rD]; decide) (by rw [h.rD]; decide)).trans h.bD
  have hDD : ∀ k, ro k ≠ 1 → k ≠ D := fun k hk e => hk (e ▸ h.rD)
  have hs : ∀ k, k ≠ D → ro k ≠ 0 → ro k ≠ 2 → (w1.setCell ⟨D, 0, none⟩ (.slice (some ⟨N', 0, none⟩) (s.top + 2) c')).heap[k]? = w.heap[k]? := fun k a b e => (Below.heap_setCell w1 _ _ k a).trans (ho k b e)
  have hnd : ∀ i, i ≤ s.top → ({ s.put (s.top + 1) n with top := s.top + 1 } : St).nd i = s.nd i := fun i hi => St.put_ne s n (by omega)
  have hn1 : ({ s.put (s.top + 1) n with top := s.top + 1 } : St).nd (s.top + 1) = n := St.put_same s _ n
  have hDN : N' ≠ D := fun e => by rw [e, hrD] at hrN; cases hrN
  refine ⟨hrD, by rw [blk_setCell hD 0 _]; rfl, hrN, ⟨cur', (Below.heap_setCell w1 _ _ N' hDN).trans hN, hz, fun i hi j hj => ?_⟩, ⟨hc, hm⟩, ?_, fun i hi => ?_, fun i hi => ?_, fun k hk => by simpa [World.setCell] using hlt k hk⟩
  · by_cases e : i = s.top + 1
    · subst e
      rw [hn1, up_same, up_same]
      exact hnew j hj
    · have hi' : i ≤ s.top := by
        have : i ≤ s.top + 1 := hi
        omega
      rw [hnd i hi', up_ne _ _ e, up_ne _ _ e]
      exact hold i hi' j hj
  · exact h.fr.same (fun k e => (hro k (by omega)).trans e) (fun k e => hs k (hDD k (by omega)) (by omega) (by omega))
  · by_cases e : i = s.top + 1
    · subst e
      rw [hn1, up_same, ha]
      exact ats_nil _ _
    · have hi' : i ≤ s.top := by
        have : i ≤ s.top + 1 := hi
        omega
      rw [hnd i hi', up_ne _ _ e]
      exact (h.ats i hi').same (fun k e => (hro k (by omega)).trans e) (fun k e => hs k (hDD k (by omega)) (by omega) (by omega))
  · by_cases e : i = s.top + 1
    · subst e
      rw [hn1, up_same, hk]
      exact rowI_nil _ _ _
    · have hi' : i ≤ s.top := by
        have : i ≤ s.top + 1 := hi
        omega
      rw [hnd i hi', up_ne _ _ e]
      exact (h.ki i hi').same (fun k e => (hro k (by omega)).trans e) (fun k e => hs k (hDD k (by omega)) (by omega) (by omega))
end

/-- a dom in memory -/
def Dom (M : Mo) (ro : Ros) (w : World) (D : Nat) (s : St) : Prop := ∃ N c fv av kv, Rel M ro w D N c fv av kv s
/-- what a call makes of it: just blocks whose purpose S names have turned -/
def Turn (M : Mo) (ro : Ros) (D : Nat) (s' : St) (S : Nat → Prop) (w w' : World) : Prop :=
  ∃ ro' : Ros, Dom M ro' w' D s' ∧ (∀ k, ro k ≠ 0 → ro' k = ro k) ∧ (∀ k, ro' k ≠ 0 → ro k ≠ 0 ∨ w.heap.size ≤ k) ∧ Kp (fun k => ro k ≠ 0 ∧ S (ro k)) w w'
section
variable {M : Mo} {ro : Ros} {w : World} {D : Nat} {s : St}
theorem Dom.call (h : Dom M ro w D s) {w' : World} (hb : Below w.heap.size w w') : Dom M ro w' D s := by
  obtain ⟨N, c, fv, av, kv, h⟩ := h
  exact ⟨N, c, fv, av, kv, h.call hb⟩
theorem Dom.lt (h : Dom M ro w D s) : ∀ k, ro k ≠ 0 → k < w.heap.size := by
  obtain ⟨N, c, fv, av, kv, h⟩ := h
  exact h.lt
/-- another dom's turn leaves this one -/
theorem Dom.apart (h : Dom M ro w D s) {S : Nat → Prop} {ro2 : Ros} {w' : World} (hk : Kp (fun k => ro2 k ≠ 0 ∧ S (ro2 k)) w w') (ha : ∀ k, ro k ≠ 0 → ro2 k = 0) : Dom M ro w' D s := by
  obtain ⟨N, c, fv, av, kv, h⟩ := h
  exact ⟨N, c, fv, av, kv, h.of_same hk.size (fun k h0 => hk.block k (h.lt k h0) (fun x => x.1 (ha k h0)))⟩
theorem Turn.trans {s2 : St} {S : Nat → Prop} {w1 w2 : World} {ro1 : Ros} (a1 : ∀ k, ro k ≠ 0 → ro1 k = ro k) (b1 : ∀ k, ro1 k ≠ 0 → ro k ≠ 0 ∨ w.heap.size ≤ k) (k1 : Kp (fun k => ro k ≠ 0 ∧ S (ro k)) w w1) (h2 : Turn M ro1 D s2 S w1 w2) : Turn M ro D s2 S w w2 := by
  obtain ⟨ro2, h2, a2, b2, k2⟩ := h2
  refine ⟨ro2, h2, fun k hk => (a2 k (by rw [a1 k hk]; exact hk)).trans (a1 k hk), fun k hk => ?_, k1.trans k2 (fun k hk hh => ?_)⟩
  · rcases b2 k hk with h | h
    · exact b1 k h
    · exact Or.inr (Nat.le_trans k1.size h)
  · rcases b1 k hh.1 with h | h
    · rw [a1 k h] at hh
      exact hh
    · omega
theorem Turn.below {s1 : St} {S : Nat → Prop} {w1 w2 : World} (h : Turn M ro D s1 S w w1) (hb : Below w1.heap.size w1 w2) : Turn M ro D s1 S w w2 := by
  obtain ⟨ro1, h1, a1, b1, k1⟩ := h
  exact ⟨ro1, h1.call hb, a1, b1, k1.trans (Kp.of_below hb (fun _ => False)) (fun _ _ e => e.elim)⟩
theorem Turn.pre {s1 : St} {S : Nat → Prop} {w1 w2 : World} (hb : Below w.heap.size w w1) (h : Turn M ro D s1 S w1 w2) : Turn M ro D s1 S w w2 := by
  obtain ⟨ro1, h1, a1, b1, k1⟩ := h
  exact ⟨ro1, h1, a1, fun k hk => (b1 k hk).imp id (fun x => Nat.le_trans hb.size x), (Kp.of_below hb (fun k => ro k ≠ 0 ∧ S (ro k))).trans k1 (fun _ _ e => e)⟩
theorem Turn.dom {s1 : St} {S : Nat → Prop} {w1 : World} (h : Turn M ro D s1 S w w1) : ∃ ro1, Dom M ro1 w1 D s1 := by
  obtain ⟨ro1, h1, _⟩ := h
  exact ⟨ro1, h1⟩
end
end Go.Proofs.Ytdbnhpghemlkbaa
