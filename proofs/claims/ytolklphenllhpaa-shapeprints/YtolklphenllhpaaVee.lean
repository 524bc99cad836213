/-
  A drawn region: some reads in a told order, then what may come in either order. No program.
-/
import Derived.Test.YtolklphenllhpaaOrd
namespace Go.Proofs.Ytolklphenllhpaa
open Go

section
variable {P : Program} {ops : Array Oper} {Q : Exit → Act → World → Prop} {md : Region.Mode} {S : World → Prop} {n : Nat}

def setAll (ls : Array Bool) : List Nat → Array Bool
  | [] => ls
  | i :: r => setAll (ls.setIfInBounds i true) r
def preB (md : Region.Mode) (ops : Array Oper) (n : Nat) : List Nat → Array Bool → Bool
  | [], _ => true
  | i :: r, ls => freeT md ops ls i && (Region.ready md ops ls).contains i && reachB md ops ops.size n i && preB md ops n r (ls.setIfInBounds i true)
def wpPre (P : Program) (ops : Array Oper) (S : World → Prop) (K : Act → Prop) : List Nat → Act → Prop
  | [], a => K a
  | i :: r, a => ∃ oi v, ops[i]? = some oi ∧ YieldsIf P ops S oi v a ∧ wpPre P ops S K r (a.put oi.dst v)

/-- the rest of a region: what has come is told, and that it has come behind what it waits for -/
structure SinkW (P : Program) (md : Region.Mode) (ops : Array Oper) (Q : Exit → Act → World → Prop) (S : World → Prop) (n m : Nat) (ls : Array Bool) (a : Act) (w : World) : Prop where
  out : Closed md ops ls → wpSink P md ops Q S n m ls a w

theorem sink_pre (hs : Region.noSelect ops = true) (hQ : ∀ d v c a w, Q (.panic c) (Act.put a d v) w → Q (.panic c) a w) :
    ∀ (ord : List Nat) (m : Nat) (ls : Array Bool) (a : Act) (w : World), Closed md ops ls → preB md ops n ord ls = true → S w → wpPre P ops S (fun a' => SinkW P md ops Q S n m (setAll ls ord) a' w) ord a → wpSink P md ops Q S n (m + ord.length) ls a w := by
  intro ord
  induction ord with
  | nil => intro m ls a w hc _ _ h; exact h.out hc
  | cons i r ih =>
    intro m ls a w hc hb hS h
    simp only [preB, Bool.and_eq_true] at hb
    obtain ⟨oi, v, hi, hy, h⟩ := h
    exact sink_takeT hi hs hb.1.2 hb.1.1.1 hb.1.1.2 hc (hQ _ _) hy hS (ih m _ _ _ (hc.next (by simpa using hb.1.1.2)) hb.2 hS h)

structure PreW (P : Program) (ops : Array Oper) (S : World → Prop) (K : Act → Prop) (ord : List Nat) (a : Act) : Prop where
  out : wpPre P ops S K ord a
theorem wp_region_pre {id : Nat} {a : Act} {w : World} (n : Nat) (ord : List Nat) (m : Nat) (S : World → Prop) (hm : P.follows .mixedOrders = true) (hs : Region.noSelect ops = true) (hl : m + ord.length = ops.size) (hb : preB .any ops n ord (Array.replicate ops.size false) = true)
    (hQ : ∀ d v c a w, Q (.panic c) (Act.put a d v) w → Q (.panic c) a w) (hS : S w.drew) (h : PreW P ops S (fun a' => SinkW P .any ops Q S n m (setAll (Array.replicate ops.size false) ord) a' w.drew) ord a) : (Code.region id ops true).wp P Q a w := by
  refine wp_region_sink (S := S) (n := n) hm ?_
  have := sink_pre (md := .any) hs hQ ord m (Array.replicate ops.size false) a w.drew (closed_none _) hb hS h.out
  rwa [hl] at this
theorem pre_q {K : Act → Prop} {i : Nat} {oi : Oper} {d : Option Tmp} {v : Value} {r : List Nat} {a : Act} (hi : ops[i]? = some oi) (hd : oi.dst = d) (hy : YieldsIf P ops S oi v a) (h : PreW P ops S K r (a.put d v)) : PreW P ops S K (i :: r) a := by
  subst hd
  exact ⟨oi, v, hi, hy, h.out⟩
theorem pre_nil {K : Act → Prop} {a : Act} (h : K a) : PreW P ops S K [] a := ⟨h⟩
/-- two may come -/
theorem sinkw_vee {i j : Nat} {m : Nat} {ls : Array Bool} {a : Act} {w : World} (hr : Region.ready md ops ls = [i, j])
    (h1 : wpOp P ops Q i (fun a' w' => (i = n ∨ S w') ∧ SinkW P md ops Q S n m (ls.setIfInBounds i true) a' w') a w)
    (h2 : wpOp P ops Q j (fun a' w' => (j = n ∨ S w') ∧ SinkW P md ops Q S n m (ls.setIfInBounds j true) a' w') a w) : SinkW P md ops Q S n (m + 1) ls a w := by
  refine ⟨fun hc => ⟨fun h0 => absurd (hr ▸ h0) (by simp), fun k hk => ?_⟩⟩
  have hcl := hc.next hk
  rw [hr, List.mem_cons, List.mem_singleton] at hk
  rcases hk with rfl | rfl
  · exact wpOp_mono (fun a' w' h => ⟨h.1, h.2.out hcl⟩) h1
  · exact wpOp_mono (fun a' w' h => ⟨h.1, h.2.out hcl⟩) h2
/-- one alone -/
theorem sinkw_one {i : Nat} {m : Nat} {ls : Array Bool} {a : Act} {w : World} (hr : Region.ready md ops ls = [i])
    (h1 : wpOp P ops Q i (fun a' w' => (i = n ∨ S w') ∧ SinkW P md ops Q S n m (ls.setIfInBounds i true) a' w') a w) : SinkW P md ops Q S n (m + 1) ls a w := by
  refine ⟨fun hc => ?_⟩
  have hcl := hc.next (i := i) (by rw [hr]; simp)
  exact sink_one hr (wpOp_mono (fun a' w' h => ⟨h.1, h.2.out hcl⟩) h1)
/-- a read first -/
theorem sinkw_take {i : Nat} {oi : Oper} {d : Option Tmp} {v : Value} {m : Nat} {ls : Array Bool} {a : Act} {w : World} (hi : ops[i]? = some oi) (hd : oi.dst = d) (hs : Region.noSelect ops = true) (hb : (freeT md ops ls i && (Region.ready md ops ls).contains i && reachB md ops ops.size n i) = true)
    (hQ : ∀ c a w, Q (.panic c) (a.put d v) w → Q (.panic c) a w) (hy : YieldsIf P ops S oi v a) (hS : S w) (h : SinkW P md ops Q S n m (ls.setIfInBounds i true) (a.put d v) w) : SinkW P md ops Q S n (m + 1) ls a w := by
  subst hd
  simp only [Bool.and_eq_true] at hb
  exact ⟨fun hc => sink_takeT hi hs hb.2 hb.1.1 hb.1.2 hc hQ hy hS (h.out (hc.next (by simpa using hb.1.2)))⟩
theorem sinkw_done {m : Nat} {ls : Array Bool} {a : Act} {w : World} (hr : Region.ready md ops ls = []) (h : Q .normal a w) : SinkW P md ops Q S n m ls a w := ⟨fun _ => sink_done hr h⟩
end
end Go.Proofs.Ytolklphenllhpaa
