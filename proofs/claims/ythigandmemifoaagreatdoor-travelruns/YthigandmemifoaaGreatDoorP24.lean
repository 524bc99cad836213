/-
  Put together: RefMtP, Ref, Mem.
-/
import Derived.Test.YthigandmemifoaaGreatDoorP13
import Derived.Test.YthigandmemifoaaGreatDoorP23
import Derived.Test.YthigandmemifoaaGreatDoorP12
import Derived.Test.YthigandmemifoaaGreatDoorP04
namespace Go.Proofs.YthigandmemifoaaGreatDoor
open Go.PlainAid

/-- what the reference's Match has come to -/
def RmMid (l : List Sg) (path : List ByteArray) (k : Nat) (ps : List Pr) : Prop :=
  k ≤ path.length ∧ mtR l path = (mtR (l.drop k) (path.drop k)).map (ps ++ ·) ∧ ps.length ≤ k

theorem rm_cases {l : List Sg} {path : List ByteArray} {k : Nat} {ps : List Pr} (hr : rgB l = true) (hk : k < l.length) (hm : RmMid l path k ps) (s1 : Int) (s2 : ByteArray) (hg : l.getD k default = (s1, s2)) :
    (s1 = 3 ∧ mtR l path = some (ps ++ [(s2, jnT (path.drop k))])) ∨ (s1 = 2 ∧ k = path.length ∧ mtR l path = some ps) ∨ ((s1 = 0 ∨ s1 = 1) ∧ k = path.length ∧ mtR l path = none)
    ∨ (s1 = 0 ∧ k < path.length ∧ ¬ path.getD k default = s2 ∧ mtR l path = none) ∨ (s1 = 0 ∧ k < path.length ∧ path.getD k default = s2 ∧ RmMid l path (k + 1) ps)
    ∨ ((s1 = 1 ∨ s1 = 2) ∧ k < path.length ∧ RmMid l path (k + 1) (ps ++ [(s2, path.getD k default)])) := by
  obtain ⟨h1, h2, h3⟩ := hm
  have hkind := (ok_parts hr (getD_mem l k hk)).2
  have hlast : s1 = 2 ∨ s1 = 3 → l.drop (k + 1) = [] := by
    intro hs
    by_cases e : k + 1 < l.length
    · have := rg_pre hr k e
      rw [hg] at this
      simp only at this
      omega
    · exact List.drop_eq_nil_of_le (by omega)
  rw [hg] at hkind
  simp only at hkind
  have hd : l.drop k = (s1, s2) :: l.drop (k + 1) := by rw [drop_get l k hk, hg]
  have h2' := h2
  rw [hd, mtR] at h2'
  have step : k < path.length → (path.drop k).drop 1 = path.drop (k + 1) ∧ (path.drop k).take 1 = [path.getD k default] ∧ path.drop k ≠ [] ∧ (path.drop k).getD 0 default = path.getD k default := by
    intro hlt
    rw [drop_get path k hlt]
    exact ⟨rfl, rfl, by simp, rfl⟩
  by_cases hlt : k < path.length
  · obtain ⟨e1, e2, e3, e4⟩ := step hlt
    rcases hkind with rfl | rfl | rfl | rfl
    · by_cases e : path.getD k default = s2
      · refine Or.inr (Or.inr (Or.inr (Or.inr (Or.inl ⟨rfl, hlt, e, by omega, ?_, by omega⟩))))
        rw [show tkN ((0 : Int), s2) (path.drop k) = some 1 by
          rw [tkN, if_neg (by simp), if_neg (by simp), if_neg e3, if_neg (by simp only [e4]; exact fun h => h.2 e)]] at h2'
        rw [h2']
        simp only [e1, e2, Option.map_map]
        congr 1
      · refine Or.inr (Or.inr (Or.inr (Or.inl ⟨rfl, hlt, e, ?_⟩)))
        rw [show tkN ((0 : Int), s2) (path.drop k) = none by
          rw [tkN, if_neg (by simp), if_neg (by simp), if_neg e3, if_pos ⟨rfl, by rw [e4]; exact e⟩]] at h2'
        rw [h2']
        rfl
    · refine Or.inr (Or.inr (Or.inr (Or.inr (Or.inr ⟨Or.inl rfl, hlt, by omega, ?_, by rw [List.length_append]; simp; omega⟩))))
      rw [show tkN ((1 : Int), s2) (path.drop k) = some 1 by
        rw [tkN, if_neg (by simp), if_neg (by simp), if_neg e3, if_neg (by simp)]] at h2'
      rw [h2']
      simp only [e1, e2, Option.map_map]
      congr 1
      funext z
      show ps ++ (tlP (1, s2) [path.getD k default] ++ z) = ps ++ [(s2, path.getD k default)] ++ z
      rw [List.append_assoc]
      rfl
    · refine Or.inr (Or.inr (Or.inr (Or.inr (Or.inr ⟨Or.inr rfl, hlt, by omega, ?_, by rw [List.length_append]; simp; omega⟩))))
      rw [show tkN ((2 : Int), s2) (path.drop k) = some 1 by
        rw [tkN, if_pos rfl, List.length_drop, Nat.min_eq_right (by omega)]] at h2'
      rw [h2']
      simp only [e1, e2, Option.map_map]
      congr 1
      funext z
      show ps ++ (tlP (2, s2) [path.getD k default] ++ z) = ps ++ [(s2, path.getD k default)] ++ z
      rw [List.append_assoc]
      rfl
    · refine Or.inl ⟨rfl, ?_⟩
      rw [show tkN ((3 : Int), s2) (path.drop k) = some (path.drop k).length by rw [tkN, if_neg (by simp), if_pos rfl]] at h2'
      rw [h2', hlast (Or.inr rfl)]
      simp only [List.drop_length, List.take_length]
      rfl
  · have ek : k = path.length := by omega
    have e0 : path.drop k = [] := List.drop_eq_nil_of_le (by omega)
    rcases hkind with rfl | rfl | rfl | rfl
    · refine Or.inr (Or.inr (Or.inl ⟨Or.inl rfl, ek, ?_⟩))
      rw [e0] at h2'
      exact h2'
    · refine Or.inr (Or.inr (Or.inl ⟨Or.inr rfl, ek, ?_⟩))
      rw [e0] at h2'
      exact h2'
    · refine Or.inr (Or.inl ⟨rfl, ek, ?_⟩)
      rw [e0, hlast (Or.inl rfl)] at h2'
      rw [h2']
      show some (ps ++ ([] ++ [])) = some ps
      simp
    · refine Or.inl ⟨rfl, ?_⟩
      rw [e0, hlast (Or.inr rfl)] at h2'
      rw [h2', e0]
      rfl
theorem rm_end {l : List Sg} {path : List ByteArray} {ps : List Pr} (hm : RmMid l path l.length ps) : mtR l path = if path.length = l.length then some ps else none := by
  obtain ⟨h1, h2, _⟩ := hm
  rw [h2, List.drop_length, mtR]
  by_cases e : path.length = l.length
  · rw [if_pos e, if_pos (List.drop_eq_nil_of_le (by omega))]
    simp
  · rw [if_neg e, if_neg]
    · rfl
    · intro h
      have := congrArg List.length h
      rw [List.length_drop] at this
      simp at this
      omega
theorem jnL_snoc : ∀ (a : List (List Int)) (x : List Int), a ≠ [] → jnL (a ++ [x]) = jnL a ++ 47 :: x := by
  intro a
  induction a with
  | nil => intro x h; exact absurd rfl h
  | cons y r ih =>
    intro x _
    cases r with
    | nil => rfl
    | cons z r' =>
      have := ih x (by simp)
      show y ++ 47 :: jnL (z :: r' ++ [x]) = (y ++ 47 :: jnL (z :: r')) ++ 47 :: x
      rw [this]
      simp
theorem jnL_inR : ∀ (a : List (List Int)), (∀ x ∈ a, InR x) → InR (jnL a) := by
  intro a
  induction a with
  | nil => intro _ x hx; cases hx
  | cons y r ih =>
    intro h
    cases r with
    | nil => exact h y (by simp)
    | cons z r' =>
      have h1 := h y (by simp)
      have h2 := ih (fun x hx => h x (by simp only [List.mem_cons] at hx ⊢; exact Or.inr hx))
      intro c hc
      have hc : c ∈ y ++ 47 :: jnL (z :: r') := hc
      rw [List.mem_append, List.mem_cons] at hc
      rcases hc with hc | rfl | hc
      · exact h1 c hc
      · omega
      · exact h2 c hc
theorem jn_inR (l : List ByteArray) : InR (jnL (l.map (fun s => encL (bs s)))) := by
  refine jnL_inR _ (fun x hx => ?_)
  rw [List.mem_map] at hx
  obtain ⟨s, _, rfl⟩ := hx
  exact encL_inR (bs_inR s)
theorem jn_one (x : ByteArray) : jnT [x] = encS x := rfl
theorem jn_snoc (a : List ByteArray) (x : ByteArray) (h : a ≠ []) : jnT (a ++ [x]) = jnT a ++ ⟨#[47]⟩ ++ encS x := by
  apply bs_inj
  rw [bs_append, bs_append, jnT, jnT, encS, bs_st (jn_inR _), bs_st (jn_inR _), bs_st (encL_inR (bs_inR x)), List.map_append, List.map_cons, List.map_nil, jnL_snoc _ _ (by simpa using h), List.append_assoc]
  rfl
theorem jn_size (a : List ByteArray) (B : Nat) (h : ∀ s ∈ a, s.size ≤ B) : (jnT a).size ≤ a.length * (3 * B + 1) := by
  rw [jnT, st_size]
  have := jnL_len (3 * B) (a.map (fun s => encL (bs s))) (by
    intro x hx
    rw [List.mem_map] at hx
    obtain ⟨s, hs, rfl⟩ := hx
    have h1 := encL_len (bs s)
    rw [bs_len] at h1
    have := h s hs
    omega)
  rwa [List.length_map] at this
end Go.Proofs.YthigandmemifoaaGreatDoor

namespace Go.Proofs.YthigandmemifoaaGreatDoor
open Go.RowKit Go.PlainAid
set_option maxRecDepth 100000

set_option maxHeartbeats 1600000 in
theorem encodeR (s : ByteArray) (w : World) (hs : s.size ≤ 100000000) : Calls Tryz.prog 76 #[.string s] w fun e w' => e = .returned (.string (encS s)) ∧ Below w.heap.size w w' := by
  have gb := get_bt s
  go_enter Tryz.func76, Tryz.ntmps76
  go_wp2_with fail
  go_loopw [4, 5] (fun v i wr => ∃ k : Nat, k ≤ s.size ∧ i = .int .i64 k ∧ Own w.heap.size w v (encL ((bs s).take k)) wr) (fun _ i _ => s.size - (intOf i).toNat)
  case atStart => exact ⟨0, Nat.zero_le _, rfl, Own.nil w⟩
  case round =>
    obtain ⟨k, hk, rfl, hown⟩ := hrel
    have HO := Lib.hid hown
    clear hown
    have eb : Hid ((encL ((bs s).take k)).length ≤ 1000000000) := by have := enc_len s k; show _ ≤ _; omega
    by_cases hlt : k < s.size
    · have c0 : (k : Int) < (s.size : Int) := by omega
      by_cases hp : pl (bt s k) = true
      · go_wp2_with (first | (go_at_call 69; refine (plainR _ _).mono ?_; rintro e w' ⟨rfl, rfl⟩; rw [hp]) | (at_builtin; refine wpList_app _ rfl (.tmp 16) (.tmp 20) rfl w.heap.size w _ _ rfl (HO.out.alloc _) ?b1 wr.heap.size 1 1 [bt s k] rfl rfl (by omega) (heap_alloc_new _ _) ?_))
        case b1 => exact eb.out
        intro v1 w1 h1
        have H1 : Hid (Own w.heap.size w v1 (encL ((bs s).take (k + 1))) w1) := by rw [enc_next s k hlt, encI, if_pos hp]; exact h1
        clear h1
        go_wp2_with fail
        go_roundw
        case rel => exact ⟨k + 1, by omega, by go_num, H1.out⟩
        case measure => simp [intOf]; omega
      · have hp : pl (bt s k) = false := by simpa using hp
        go_wp2_with (first | (go_at_call 69; refine (plainR _ _).mono ?_; rintro e w' ⟨rfl, rfl⟩; rw [hp]))
        have gd := get_bt ⟨#[48, 49, 50, 51, 52, 53, 54, 55, 56, 57, 65, 66, 67, 68, 69, 70]⟩
        have q0 := bt_nonneg s k
        have q1 := bt_le s k
        have a1 : bits BinOp.and IntKind.u8 (bt s k) 15 = bt s k % 16 := and15 _ q0 q1
        have a2 : 0 ≤ bt s k / 16 ∧ bt s k / 16 < 16 := by omega
        have a3 : 0 ≤ bt s k % 16 ∧ bt s k % 16 < 16 := by omega
        have a4 := dig_at (bt s k / 16) a2
        have a5 := dig_at (bt s k % 16) a3
        go_region_held3 (fun _ => True) (trivial) (first | (refine step_app _ (by rfl) (.tmp 22) (.tmp 35) rfl w.heap.size w _ _ rfl ((HO.out.alloc _).drew) eb.out wr.heap.size 3 3 [37, dg (bt s k / 16), dg (bt s k % 16)] rfl rfl (by omega) (heap_alloc_new _ _) ?_; intro v1 w1 h1; have H1 := Lib.hid h1; clear h1))
        all_goals
          go_wp2_with fail
          go_roundw
          case rel => exact ⟨k + 1, by omega, by go_num, by rw [enc_next s k hlt, encI, if_neg (by simp [hp])]; exact H1.out⟩
          case measure => simp [intOf]; omega
    · obtain rfl : k = s.size := by omega
      have hcv := own_text HO.out
      rw [enc_all] at hcv
      go_wp2
      go_ret
      exact ⟨rfl, HO.out.2.1⟩
end Go.Proofs.YthigandmemifoaaGreatDoor

namespace Go.Proofs.YthigandmemifoaaGreatDoor
open Go.RowKit Go.PlainAid
set_option maxRecDepth 100000

theorem no_str {cs : Array Value} {A B : Option Addr} {n m c d i : Nat} {s : ByteArray} (h : cs = #[.slice A n c, .slice B m d]) (hc : cs[i]? = some (.string s)) : False := by
  subst h
  match i with
  | 0 => simp at hc
  | 1 => simp at hc
  | i + 2 => simp at hc
theorem set2_cell (w : World) (b : Nat) (x y : Value) (p : Addr) (hp : p.block ≠ b) : ((w.setCell ⟨b, 0, none⟩ x).setCell ⟨b, 1, none⟩ y).cell? p = w.cell? p := by
  rw [World.cell?_of_block (w := w.setCell ⟨b, 0, none⟩ x) (Below.heap_setCell _ _ _ _ hp), World.cell?_of_block (w := w) (Below.heap_setCell _ _ _ _ hp)]
/-- a block of two slices holds no text: it may be written -/
theorem Ss.set2 {w : World} {v : Value} {l : List ByteArray} (h : Ss w v l) {b : Nat} {A B : Option Addr} {n m c d : Nat} {t : TypeId} (hk : w.heap[b]? = some (.cells #[.slice A n c, .slice B m d] t (0, 0))) (x y : Value) : Ss ((w.setCell ⟨b, 0, none⟩ x).setCell ⟨b, 1, none⟩ y) v l := by
  obtain ⟨A', cap, h1, h2, h3, h4⟩ := h
  refine ⟨A', cap, h1, h2, h3, fun i hi => ?_⟩
  obtain ⟨b', o, ha, hc⟩ := h4 i hi
  refine ⟨b', o, ha, ?_⟩
  rw [set2_cell _ _ _ _ _ ?_]
  · exact hc
  · intro e
    have e : b' = b := e
    subst e
    rw [blk_cell hk] at hc
    exact no_str rfl hc
theorem Ps.set2 {w : World} {v : Value} {l : List Pr} (h : Ps w v l) {b : Nat} {A B : Option Addr} {n m c d : Nat} {t : TypeId} (hk : w.heap[b]? = some (.cells #[.slice A n c, .slice B m d] t (0, 0))) (x y : Value) : Ps ((w.setCell ⟨b, 0, none⟩ x).setCell ⟨b, 1, none⟩ y) v l := by
  obtain ⟨A', cap, h1, h2, h3, h4⟩ := h
  refine ⟨A', cap, h1, h2, h3, fun i hi => ?_⟩
  obtain ⟨b', o, ha, hc, hd⟩ := h4 i hi
  have hne : b' ≠ b := by
    intro e
    subst e
    rw [blk_cell hk] at hc
    exact no_str rfl hc
  exact ⟨b', o, ha, by rw [set2_cell _ _ _ _ _ hne]; exact hc, by rw [set2_cell _ _ _ _ _ hne]; exact hd⟩

/-- the variable U holds a list that is being made -/
def MemS (U B : Nat) (w4 : World) (z : Value) (xs : List ByteArray) (w : World) : Prop :=
  ∃ A n c, w.heap[U]? = some (.cells #[.slice A n c, z] 33 (0, 0)) ∧ w.ownsRow B 9 1 (.slice A n c) xs.length (xs.flatMap stC) ∧ Kp (fun k => k = U) w4 w ∧ B ≤ w.heap.size
def MemP (U B : Nat) (w4 : World) (z : Value) (xs : List Pr) (w : World) : Prop :=
  ∃ A n c, w.heap[U]? = some (.cells #[z, .slice A n c] 33 (0, 0)) ∧ w.ownsRow B 61 2 (.slice A n c) xs.length (xs.flatMap prC) ∧ Kp (fun k => k = U) w4 w ∧ B ≤ w.heap.size

theorem Kp.call {S : Nat → Prop} {a b c : World} (h : Kp S a b) (hb : Below b.heap.size b c) : Kp S a c := h.trans (T := fun _ => False) (Kp.of_below hb _) (fun _ _ t => t.elim)
theorem MemS.call {U B : Nat} {w4 : World} {z : Value} {xs : List ByteArray} {w w' : World} (h : MemS U B w4 z xs w) (hb : Below w.heap.size w w') : MemS U B w4 z xs w' := by
  obtain ⟨A, n, c, h1, h2, h3, h4⟩ := h
  exact ⟨A, n, c, blk_call h1 hb, owns_call h2 hb, h3.call hb, by have := hb.size; omega⟩
theorem MemP.call {U B : Nat} {w4 : World} {z : Value} {xs : List Pr} {w w' : World} (h : MemP U B w4 z xs w) (hb : Below w.heap.size w w') : MemP U B w4 z xs w' := by
  obtain ⟨A, n, c, h1, h2, h3, h4⟩ := h
  exact ⟨A, n, c, blk_call h1 hb, owns_call h2 hb, h3.call hb, by have := hb.size; omega⟩

/-- the variable holds what is appended -/
theorem memS_step {U B : Nat} {w4 w7 w8 : World} {A A' : Option Addr} {n c n' c' : Nat} {z : Value} {xs ys : List ByteArray} (hU : w7.heap[U]? = some (.cells #[.slice A n c, z] 33 (0, 0))) (hUB : U < B)
    (ho : w7.ownsRow B 9 1 (.slice A n c) xs.length (xs.flatMap stC)) (hk : Kp (fun k => k = U) w4 w7) (o : Obj) (h8 : OwnS B (w7.alloc o) (.slice A' n' c') (xs ++ ys) w8) (hg : (w7.alloc o).grownBy w8 (Value.slice A n c).ownBlock) (h4 : w4.heap.size ≤ B) :
    w8.heap[U]? = some (.cells #[.slice A n c, z] 33 (0, 0)) ∧ MemS U B w4 z (xs ++ ys) (w8.setCell ⟨U, 0, none⟩ (.slice A' n' c')) := by
  have hne : (Value.slice A n c).ownBlock ≠ some U := fun e => by have := (ho.lt _ e).1; omega
  have hne' : (Value.slice A' n' c').ownBlock ≠ some U := fun e => by have := (h8.1.lt _ e).1; omega
  have hU8 : w8.heap[U]? = some (.cells #[.slice A n c, z] 33 (0, 0)) := by
    rw [hg.block U (by have := blk_lt hU; simp; omega) (fun e => hne e.symm)]
    exact blk_alloc hU o
  refine ⟨hU8, A', n', c', blk_setCell hU8 0 _, owns_set h8.1 ⟨U, 0, none⟩ hne' _, ?_, by have := h8.2.2; simpa [World.setCell] using this⟩
  have hk8 : Kp (fun k => k = U) w4 w8 := (hk.alloc o).grown hg (fun k hk' e => absurd (ho.lt _ e).1 (by omega))
  exact hk8.setCell (p := ⟨U, 0, none⟩) (fun _ => rfl) _
theorem memP_step {U B : Nat} {w4 w7 w8 : World} {A A' : Option Addr} {n c n' c' : Nat} {z : Value} {xs ys : List Pr} (hU : w7.heap[U]? = some (.cells #[z, .slice A n c] 33 (0, 0))) (hUB : U < B)
    (ho : w7.ownsRow B 61 2 (.slice A n c) xs.length (xs.flatMap prC)) (hk : Kp (fun k => k = U) w4 w7) (o : Obj) (h8 : OwnP B (w7.alloc o) (.slice A' n' c') (xs ++ ys) w8) (hg : (w7.alloc o).grownBy w8 (Value.slice A n c).ownBlock) (h4 : w4.heap.size ≤ B) :
    w8.heap[U]? = some (.cells #[z, .slice A n c] 33 (0, 0)) ∧ MemP U B w4 z (xs ++ ys) (w8.setCell ⟨U, 1, none⟩ (.slice A' n' c')) := by
  have hne : (Value.slice A n c).ownBlock ≠ some U := fun e => by have := (ho.lt _ e).1; omega
  have hne' : (Value.slice A' n' c').ownBlock ≠ some U := fun e => by have := (h8.1.lt _ e).1; omega
  have hU8 : w8.heap[U]? = some (.cells #[z, .slice A n c] 33 (0, 0)) := by
    rw [hg.block U (by have := blk_lt hU; simp; omega) (fun e => hne e.symm)]
    exact blk_alloc hU o
  refine ⟨hU8, A', n', c', blk_setCell hU8 1 _, owns_set h8.1 ⟨U, 1, none⟩ hne' _, ?_, by have := h8.2.2; simpa [World.setCell] using this⟩
  have hk8 : Kp (fun k => k = U) w4 w8 := (hk.alloc o).grown hg (fun k hk' e => absurd (ho.lt _ e).1 (by omega))
  exact hk8.setCell (p := ⟨U, 1, none⟩) (fun _ => rfl) _

/-- texts and pairs behind a variable that turns -/
theorem Ss.kp {w w' : World} {v : Value} {l : List ByteArray} (h : Ss w v l) {U : Nat} {A B : Option Addr} {n m c d : Nat} {t : TypeId} (hU : w.heap[U]? = some (.cells #[.slice A n c, .slice B m d] t (0, 0))) (hk : Kp (fun k => k = U) w w') : Ss w' v l := by
  obtain ⟨A', cap, h1, h2, h3, h4⟩ := h
  refine ⟨A', cap, h1, h2, h3, fun i hi => ?_⟩
  obtain ⟨b, o, ha, hc⟩ := h4 i hi
  have hne : b ≠ U := by
    intro e
    subst e
    rw [blk_cell hU] at hc
    exact no_str rfl hc
  exact ⟨b, o, ha, by rw [hk.cell (World.block_lt_of_cell? _ _ hc) hne]; exact hc⟩
theorem MemS.ss {U B : Nat} {w4 : World} {z : Value} {xs : List ByteArray} {w : World} (h : MemS U B w4 z xs w) : ∃ A n c, w.heap[U]? = some (.cells #[.slice A n c, z] 33 (0, 0)) ∧ Ss w (.slice A n c) xs ∧ Kp (fun k => k = U) w4 w := by
  obtain ⟨A, n, c, h1, h2, h3, h4⟩ := h
  exact ⟨A, n, c, h1, OwnS.ss (B := B) (w0 := w) ⟨h2, Below.refl _ _, h4⟩, h3⟩
theorem MemP.ps {U B : Nat} {w4 : World} {z : Value} {xs : List Pr} {w : World} (h : MemP U B w4 z xs w) : ∃ A n c, w.heap[U]? = some (.cells #[z, .slice A n c] 33 (0, 0)) ∧ Ps w (.slice A n c) xs ∧ Kp (fun k => k = U) w4 w := by
  obtain ⟨A, n, c, h1, h2, h3, h4⟩ := h
  exact ⟨A, n, c, h1, OwnP.ps (B := B) (w0 := w) ⟨h2, Below.refl _ _, h4⟩, h3⟩
end Go.Proofs.YthigandmemifoaaGreatDoor
