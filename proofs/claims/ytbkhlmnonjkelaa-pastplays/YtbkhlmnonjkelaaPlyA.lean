/-
  What holds as PastPlays goes on: the past, the entries that are kept beside it, where one is.
-/
import Derived.Test.YtbkhlmnonjkelaaFrm
import Derived.Test.YtbkhlmnonjkelaaArgs
namespace Go.Proofs.Ytbkhlmnonjkelaa
open Go.RowKit Go.PlainAid
set_option maxRecDepth 100000

theorem Aks.at_ {w : World} {A : Option Addr} {n c : Nat} {f : Nat → Ak} (h : Aks w (.slice A n c) n f) (k : Nat) (hk : k < n) : ∃ D o, A = some ⟨D, o, none⟩ ∧ AkAt w D (o + k * 4) (f k) := by
  obtain ⟨A', c', e, _, h3⟩ := h
  cases e
  exact h3 k hk

/-- an offset that is one -/
def OkS (x : Int) : Prop := U64 x ∧ clI x = x
theorem oks_zero : OkS 0 := ⟨by unfold U64; omega, clI_fix 0 (by omega) (by omega)⟩
theorem clI_cl (x : Int) : 0 ≤ clI x ∧ clI x ≤ 4697254411347427328 := by
  have := Fl.cl_le x.toNat
  unfold clI
  unfold Fl.TOP at this
  omega
theorem oks_clean (x : Int) : OkS (clI x) := ⟨U64.clI x, clI_fix _ (clI_cl x).1 (clI_cl x).2⟩

/-- the past in block b, the same entries in block T -/
structure Sta (w : World) (b T c : Nat) (g : Nat → En) (last a : Nat) (wr : World) : Prop where
  p : Pc wr b g last a
  r : Rk wr T (last + 1) g
  hl : last ≤ 11
  ha : a ≤ last
  hc : last + 1 ≤ c
  ne : T ≠ b
  hT : w.heap.size ≤ T
  hb : w.heap.size ≤ b
  below : Below w.heap.size w wr
  ok : ∀ i, i ≤ last → OkS (g i).2
theorem Sta.alloc {w wr : World} {b T c last a : Nat} {g : Nat → En} (h : Sta w b T c g last a wr) (o : Obj) : Sta w b T c g last a (wr.alloc o) :=
  ⟨h.p.alloc o, h.r.alloc o, h.hl, h.ha, h.hc, h.ne, h.hT, h.hb, h.below.alloc h.below.size o, h.ok⟩
theorem Sta.call {w wr w' : World} {b T c last a : Nat} {g : Nat → En} (h : Sta w b T c g last a wr) (hb : Below wr.heap.size wr w') : Sta w b T c g last a w' :=
  ⟨h.p.call hb, h.r.call hb, h.hl, h.ha, h.hc, h.ne, h.hT, h.hb, h.below.trans (hb.mono h.below.size), h.ok⟩
theorem Sta.drew {w wr : World} {b T c last a : Nat} {g : Nat → En} (h : Sta w b T c g last a wr) : Sta w b T c g last a wr.drew := h.call (Below.refl _ wr).drew
theorem Sta.old {w wr : World} {b T c last a : Nat} {g : Nat → En} (h : Sta w b T c g last a wr) : b < wr.heap.size ∧ T < wr.heap.size := ⟨h.p.lt, h.r.lt⟩
theorem sta_new {w w1 : World} {b : Nat} (s : ByteArray) (hb : w.heap.size ≤ b) (hp : Pc w1 b (newE s) 0 0) (hw : Below w.heap.size w w1) :
    Sta w b w1.heap.size 1 (newE s) 0 0 (w1.alloc (.cells #[.string s, .int .u64 0] 28 (0, 0))) := by
  refine ⟨hp.alloc _, ⟨_, blk_new w1 _, by simp, fun i hi => ?_⟩, by omega, by omega, by omega, ?_, hw.size, hb, hw.alloc hw.size _, fun i hi => ?_⟩
  · obtain rfl : i = 0 := by omega
    exact ⟨rfl, rfl⟩
  · have := hp.lt
    omega
  · obtain rfl : i = 0 := by omega
    exact oks_zero

theorem own_new {B X : Nat} {w0 w : World} {v : Value} {T0 : Nat} {xs : List En} {n : Nat} (h : OwnE B w0 v xs w) (hn : xs.length = n) {k c : Nat} (hob : v.ownBlock = (Value.slice (some ⟨T0, 0, none⟩) k c).ownBlock ∨ v.ownBlock = some X) :
    ∃ T3 c3, v = .slice (some ⟨T3, 0, none⟩) n c3 ∧ B ≤ T3 ∧ n ≤ c3 := by
  subst hn
  obtain ⟨_, ⟨rfl, _⟩ | ⟨g3, cap3, cur3, rfl, hb, _, hc, _⟩⟩ := h.1
  · rcases hob with hob | hob <;> simp [Value.ownBlock] at hob
  · exact ⟨g3, cap3, rfl, hb, hc⟩
theorem OwnE.rkl {B : Nat} {w0 w : World} {T n c : Nat} {g : Nat → En} (h : OwnE B w0 (.slice (some ⟨T, 0, none⟩) n c) (lis g n) w) : Rk w T n g := by
  have := h.rk
  rw [lis_len] at this
  exact this.congr (fun i hi => lis_get g n i hi)

/-- append([]Entry{}, x...), x a block's beginning -/
theorem wpList_cln {ops : Array Oper} {rest : List Oper} {o : Oper} {a : Act} {Q : Exit → Act → World → Prop} (w : World) (hgd : o.guard = none) (s x : Operand)
    (ho : o.op = .call { callee := .builtin .append, args := #[s, x], argTypes := #[32, 32] })
    (B : Nat) (w0 : World) (T0 : Nat) (hs : a.eval s = .slice (some ⟨T0, 0, none⟩) 0 0) (hown : OwnE B w0 (.slice (some ⟨T0, 0, none⟩) 0 0) [] w)
    (T n N c : Nat) (g : Nat → En) (hx : a.eval x = .slice (some ⟨T, 0, none⟩) n c) (hR : Rk w T N g) (hn : n ≤ N) (hc : n ≤ c) (hn1 : n ≤ 100)
    (h : ∀ T3 c3 w', OwnE B w0 (.slice (some ⟨T3, 0, none⟩) n c3) (lis g n) w' → B ≤ T3 → n ≤ c3 → wpList Try.prog ops Q rest (a.put o.dst (.slice (some ⟨T3, 0, none⟩) n c3)) w') : wpList Try.prog ops Q (o :: rest) a w := by
  refine wpList_appR w hgd s x ho B w0 _ [] hs hown (by simp) ⟨T, 0, none⟩ n c (lis g n) hx (hR.es n c hn hc) (by omega) ?_
  intro v' w' h1 _ h3
  rw [List.nil_append] at h1
  obtain ⟨T3, c3, rfl, hb, hc3⟩ := own_new h1 (lis_len g n) h3
  exact h T3 c3 w' h1 hb hc3

/-- the past has turned, the entries stand in a new block -/
theorem Sta.next {w wr w2 w3 : World} {b T c last a : Nat} {g : Nat → En} (h : Sta w b T c g last a wr) {g' : Nat → En} {last' a' : Nat} (hp : Pc w2 b g' last' a') (hk : Kp (fun i => i = b) wr w2) (hb : Below w2.heap.size w2 w3) {T3 c3 : Nat}
    (hT3 : w2.heap.size ≤ T3) (hr : Rk w3 T3 (last' + 1) g') (hl : last' ≤ 11) (ha : a' ≤ last') (hc : last' + 1 ≤ c3) (ok : ∀ i, i ≤ last' → OkS (g' i).2) : Sta w b T3 c3 g' last' a' w3 := by
  have h1 := h.below.size
  have h2 := hk.size
  have h3 := h.p.lt
  have h4 := h.hb
  exact ⟨hp.call hb, hr, hl, ha, hc, by omega, by omega, h.hb, (h.below.trans (hk.below h1 (fun i hi e => by omega))).trans (hb.mono (by omega)), ok⟩
theorem Sta.rk {w wr w2 : World} {b T c last a : Nat} {g : Nat → En} (h : Sta w b T c g last a wr) (hk : Kp (fun i => i = b) wr w2) : Rk w2 T (last + 1) g := h.r.of_block (hk.block T h.r.lt h.ne)
theorem below_put2 {w0 w : World} {B T : Nat} (h : Below B w0 w) (hB : B ≤ w.heap.size) (hT : B ≤ T) (o1 : Nat) (x1 : Value) : Below B w0 (w.setCell ⟨T, o1, none⟩ x1) :=
  h.trans (((Kp.refl (fun i => i = T) w).setCell (p := ⟨T, o1, none⟩) (fun _ => rfl) x1).below hB (fun i hi e => by omega))
theorem ok_put {g : Nat → En} {last a : Nat} {e : En} (h : ∀ i, i ≤ last → OkS (g i).2) (he : OkS e.2) : ∀ i, i ≤ last → OkS (putE g a e i).2 := by
  intro i hi
  unfold putE
  by_cases h1 : i = a
  · rw [if_pos h1]; exact he
  · rw [if_neg h1]; exact h i hi
theorem ok_push {g : Nat → En} {last a : Nat} {e : En} (ha : a ≤ last) (h : ∀ i, i ≤ last → OkS (g i).2) (he : OkS e.2) : ∀ i, i ≤ a + 1 → OkS (putE (cutE g (a + 1)) (a + 1) e i).2 := by
  intro i hi
  unfold putE cutE
  by_cases h1 : i = a + 1
  · rw [if_pos h1]; exact he
  · rw [if_neg h1, if_pos (by omega)]; exact h i (by omega)
theorem push_lis (g : Nat → En) (a : Nat) (e : En) (i : Nat) (hi : i < a + 1 + 1) : (lis g (a + 1) ++ [e]).getD i default = putE (cutE g (a + 1)) (a + 1) e i := by
  unfold putE cutE
  by_cases h1 : i = a + 1
  · subst h1
    rw [if_pos rfl]
    simp [List.getD, lis]
  · rw [if_neg h1, if_pos (by omega)]
    have h2 : i < a + 1 := by omega
    rw [← lis_get g (a + 1) i h2]
    simp [List.getD, List.getElem?_append_left, lis, h2]
end Go.Proofs.Ytbkhlmnonjkelaa
