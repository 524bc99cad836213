/-
  pattern.take, join, tell.
-/
import Derived.Test.YtnnmbpghkflepaaGreatDoorSame
import Derived.Test.YtnnmbpghkflepaaGreatDoorEnc
import Derived.Test.YtnnmbpghkflepaaGreatDoorShelf
namespace Go.Proofs.YtnnmbpghkflepaaGreatDoor
open Go.RowKit Go.PlainAid
set_option maxRecDepth 100000

def tkI (g : Sg) (left : List ByteArray) : Nat := (tkN g left).getD 0
def tkB (g : Sg) (left : List ByteArray) : Bool := (tkN g left).isSome
theorem tk_cases (g1 : Int) (g2 : ByteArray) (left : List ByteArray) :
    (g1 = 2 ∧ tkI (g1, g2) left = min left.length 1 ∧ tkB (g1, g2) left = true) ∨ (g1 = 3 ∧ tkI (g1, g2) left = left.length ∧ tkB (g1, g2) left = true) ∨
    (g1 ≠ 2 ∧ g1 ≠ 3 ∧ left = [] ∧ tkI (g1, g2) left = 0 ∧ tkB (g1, g2) left = false) ∨
    (g1 = 0 ∧ 0 < left.length ∧ left.getD 0 default ≠ g2 ∧ tkI (g1, g2) left = 0 ∧ tkB (g1, g2) left = false) ∨
    (g1 = 0 ∧ 0 < left.length ∧ left.getD 0 default = g2 ∧ tkI (g1, g2) left = 1 ∧ tkB (g1, g2) left = true) ∨
    (g1 ≠ 0 ∧ g1 ≠ 2 ∧ g1 ≠ 3 ∧ 0 < left.length ∧ tkI (g1, g2) left = 1 ∧ tkB (g1, g2) left = true) := by
  by_cases h2 : g1 = 2
  · subst h2; exact Or.inl ⟨rfl, rfl, rfl⟩
  by_cases h3 : g1 = 3
  · subst h3; exact Or.inr (Or.inl ⟨rfl, rfl, rfl⟩)
  by_cases hl : left = []
  · refine Or.inr (Or.inr (Or.inl ⟨h2, h3, hl, ?_, ?_⟩)) <;> simp [tkI, tkB, tkN, h2, h3, hl]
  have hp : 0 < left.length := List.length_pos_iff.2 hl
  by_cases h0 : g1 = 0
  · subst h0
    by_cases he : left.getD 0 default = g2
    · refine Or.inr (Or.inr (Or.inr (Or.inr (Or.inl ⟨rfl, hp, he, ?_, ?_⟩)))) <;> simp [tkI, tkB, tkN, hl, he, -List.getD_eq_getElem?_getD]
    · refine Or.inr (Or.inr (Or.inr (Or.inl ⟨rfl, hp, he, ?_, ?_⟩))) <;> simp [tkI, tkB, tkN, hl, he, -List.getD_eq_getElem?_getD]
  · refine Or.inr (Or.inr (Or.inr (Or.inr (Or.inr ⟨h0, h2, h3, hp, ?_, ?_⟩)))) <;> simp [tkI, tkB, tkN, h2, h3, hl, h0]

set_option maxHeartbeats 1600000 in
theorem take25 (g1 : Int) (g2 : ByteArray) (v : Value) (left : List ByteArray) (w : World) (h : Ss w v left) :
    Calls Tryz.prog 67 #[.agg #[.int .i64 g1, .string g2], v] w fun e w' => e = .returned (.tuple #[.int .i64 (tkI (g1, g2) left), .bool (tkB (g1, g2) left)]) ∧ Below w.heap.size w w' := by
  obtain ⟨A, cap, rfl, _, _, hc⟩ := h
  have HC := Lib.hid hc
  clear hc
  have HB := Lib.hid ((Below.refl w.heap.size w).alloc (Nat.le_refl _) (.cells #[.int .i64 g1, .string g2] 49 (0, 0)))
  rcases tk_cases g1 g2 left with ⟨rfl, e1, e2⟩ | ⟨rfl, e1, e2⟩ | ⟨c2, c3, rfl, e1, e2⟩ | ⟨rfl, hp, he, e1, e2⟩ | ⟨rfl, hp, he, e1, e2⟩ | ⟨c0, c2, c3, hp, e1, e2⟩
  · have hm : min (left.length : Int) 1 = ((min left.length 1 : Nat) : Int) := by omega
    rw [e1, e2]
    clear e1 e2
    go_enter Tryz.func67, Tryz.ntmps67
    go_wp2
    go_ret2
    exact ⟨by first | rfl | (rw [hm]), HB.out⟩
  · rw [e1, e2]
    clear e1 e2
    go_enter Tryz.func67, Tryz.ntmps67
    go_wp2
    go_ret2
    exact ⟨rfl, HB.out⟩
  · rw [e1, e2]
    clear e1 e2
    go_enter Tryz.func67, Tryz.ntmps67
    go_wp2_with fail
    go_region
    go_wp2
    go_ret2
    exact ⟨rfl, HB.out.drew⟩
  · rw [e1, e2]
    have q := str_bne _ _ he
    obtain ⟨b, o, rfl, hcell⟩ := HC.out 0 hp
    rw [Nat.add_zero] at hcell
    have g : ∀ ob, (w.alloc ob).cell? ⟨b, o, none⟩ = some (.string (left.getD 0 default)) := fun ob => by
      rw [World.cell?_of_block (w := w) (Below.heap_alloc _ _ _ (World.block_lt_of_cell? _ _ hcell))]; exact hcell
    clear e1 e2 he hcell
    have c0 : ¬ (left.length : Int) = 0 := by omega
    have c1 : ((left.length : Int) == 0) = false := by simpa using c0
    have c4 : (0 : Int) < (left.length : Int) := by omega
    generalize left.getD 0 default = x at *
    go_enter Tryz.func67, Tryz.ntmps67
    go_wp2_with fail
    go_region
    go_wp2
    go_ret2
    exact ⟨rfl, HB.out.drew⟩
  · rw [e1, e2]
    have q := str_beq _ _ he
    obtain ⟨b, o, rfl, hcell⟩ := HC.out 0 hp
    rw [Nat.add_zero] at hcell
    have g : ∀ ob, (w.alloc ob).cell? ⟨b, o, none⟩ = some (.string (left.getD 0 default)) := fun ob => by
      rw [World.cell?_of_block (w := w) (Below.heap_alloc _ _ _ (World.block_lt_of_cell? _ _ hcell))]; exact hcell
    clear e1 e2 he hcell
    have c0 : ¬ (left.length : Int) = 0 := by omega
    have c1 : ((left.length : Int) == 0) = false := by simpa using c0
    have c4 : (0 : Int) < (left.length : Int) := by omega
    generalize left.getD 0 default = x at *
    go_enter Tryz.func67, Tryz.ntmps67
    go_wp2_with fail
    go_region
    go_wp2
    go_ret2
    exact ⟨rfl, HB.out.drew⟩
  · rw [e1, e2]
    clear e1 e2
    have c5 : ¬ (left.length : Int) = 0 := by omega
    have c1 : ((left.length : Int) == 0) = false := by simpa using c5
    have c6 : (g1 == 0) = false := by simpa using c0
    go_enter Tryz.func67, Tryz.ntmps67
    go_wp2_with fail
    go_region
    go_wp2
    go_ret2
    exact ⟨rfl, HB.out.drew⟩

/-! join -/
theorem st_of' (l : List UInt8) : (⟨l.toArray⟩ : ByteArray) = st (l.map (fun b => (b.toNat : Int))) := by
  rw [st]
  congr 1
  simp [List.map_map, Function.comp_def]
theorem join_jn : ∀ xs : List (List UInt8), (Lib.join xs [47]).map (fun b => (b.toNat : Int)) = jnL (xs.map (List.map (fun b => (b.toNat : Int)))) := by
  intro xs
  induction xs with
  | nil => rfl
  | cons x r ih =>
    cases r with
    | nil => simp [Lib.join_one, jnL]
    | cons y r =>
      have e : Lib.join (x :: y :: r) [47] = x ++ 47 :: Lib.join (y :: r) [47] := by
        rw [Lib.join_cons, Lib.join_cons]
        simp [Lib.joinTail]
      rw [e, List.map_append, List.map_cons, ih]
      rfl
theorem jn_is (l : List ByteArray) : (⟨(Lib.join ((l.map encS).map (·.data.toList)) [47]).toArray⟩ : ByteArray) = jnT l := by
  rw [st_of', join_jn, jnT, List.map_map, List.map_map]
  congr 2
  apply List.map_congr_left
  intro s _
  exact bs_st (encL_inR (bs_inR s))
theorem jnL_len (B : Nat) : ∀ l : List (List Int), (∀ x ∈ l, x.length ≤ B) → (jnL l).length ≤ l.length * (B + 1) := by
  intro l
  induction l with
  | nil => intro _; simp [jnL]
  | cons x r ih =>
    intro h
    have hx := h x (by simp)
    cases r with
    | nil => simp [jnL]; omega
    | cons y r =>
      have := ih (fun z hz => h z (by simp at hz ⊢; exact Or.inr hz))
      rw [jnL, List.length_append, List.length_cons, List.length_cons, Nat.add_mul]
      omega
theorem join_len (l : List ByteArray) (h : ∀ s ∈ l, s.size ≤ 100000000) (hl : l.length ≤ 1000) : (Lib.join ((l.map encS).map (·.data.toList)) [47]).length ≤ 140737488355328 := by
  have e : (Lib.join ((l.map encS).map (·.data.toList)) [47]).length = (jnL (l.map (fun s => encL (bs s)))).length := by
    have := congrArg ByteArray.size (jn_is l)
    rw [jnT, st_size, Lib.size_eq] at this
    simpa using this
  rw [e]
  have := jnL_len 300000000 (l.map (fun s => encL (bs s))) (by
    intro x hx
    rw [List.mem_map] at hx
    obtain ⟨s, hs, rfl⟩ := hx
    have h1 := encL_len (bs s)
    have h2 := h s hs
    rw [bs_len] at h1
    omega)
  rw [List.length_map] at this
  omega

theorem join59 (b o c n : Nat) (l : List ByteArray) (w : World) (hn : n = l.length) (hcells : ∀ (j : Nat) x, (l.map encS)[j]? = some x → w.cell? ⟨b, o + j, none⟩ = some (.string x)) (hbk : b < w.heap.size) (hc : n ≤ c) (h1 : ∀ s ∈ l, s.size ≤ 100000000) (h2 : l.length ≤ 1000) :
    Calls Tryz.prog 100 #[.slice (some ⟨b, o, none⟩) n c, .string ⟨#[47]⟩] w fun e w' => e = .returned (.string (jnT l)) ∧ Below w.heap.size w w' := by
  have hl : (l.map encS).length = n := by simp [hn]
  have := Tryz.strings_Join b o c (l.map encS) ⟨#[47]⟩ w hcells hbk (by omega) (by omega) (join_len l h1 h2)
  rw [hl] at this
  refine this.mono ?_
  rintro e w' ⟨rfl, h⟩
  rw [← jn_is]
  exact ⟨rfl, h⟩

set_option maxHeartbeats 1600000 in
theorem join44 (v : Value) (l : List ByteArray) (w : World) (h : Ss w v l) (hs : ∀ s ∈ l, s.size ≤ 100000000) (hl : l.length ≤ 1000) :
    Calls Tryz.prog 83 #[v] w fun e w' => e = .returned (.string (jnT l)) ∧ Below w.heap.size w w' := by
  obtain ⟨A, cap, rfl, _, _, hc⟩ := h
  have HC := Lib.hid hc
  have HS := Lib.hid hs
  clear hc hs
  go_enter Tryz.func83, Tryz.ntmps83
  go_wp2_with (at_make; refine wpList_mkS _ rfl _ _ rfl w.heap.size w (Below.refl _ _) (Nat.le_refl _) _ l.length rfl rfl rfl (by omega) ?_)
  intro v2 w2 h2 _
  have H2 := Lib.hid h2
  clear h2
  go_wp2_with fail
  go_loopw [3, 11] (fun v i wr => ∃ (k : Nat), k ≤ l.length ∧ i = .int .i64 k ∧ OwnS w.heap.size w v ((l.take k).map encS) wr) (fun _ i _ => l.length - (intOf i).toNat)
  case atStart => exact ⟨0, Nat.zero_le _, rfl, H2.out⟩
  case round =>
    obtain ⟨k, hk, rfl, hown⟩ := hrel
    have HO := Lib.hid hown
    clear hown
    by_cases hlt : k < l.length
    · have d0 : (k : Int) < (l.length : Int) := by omega
      obtain ⟨x, o, rfl, hcell⟩ := HC.out k hlt
      have g1 : wr.cell? ⟨x, o + k, none⟩ = some (.string (l.getD k default)) := by rw [HO.out.2.1.cell (World.block_lt_of_cell? _ _ hcell)]; exact hcell
      have hsz : (l.getD k default).size ≤ 100000000 := HS.out _ (getD_mem l k hlt)
      have HN := Lib.hid (take_next encS l k hlt)
      have eb : Hid (((l.take k).map encS).length ≤ 1000000000) := by show _ ≤ _; rw [List.length_map, List.length_take]; omega
      clear hcell
      generalize l.getD k default = p at *
      go_wp2_with (first | (go_at_call 99; refine (encodeP _ _ hsz).mono ?_; rintro e w3 ⟨rfl, h3⟩; have HO3 := Lib.hid (HO.out.call h3); clear h3) | (at_builtin; refine wpList_appS _ rfl (.tmp 15) (.tmp 18) rfl w.heap.size w _ _ rfl (HO3.out.alloc _) ?b1 w3.heap.size 1 1 [encS p] rfl rfl (by omega) (heap_alloc_new _ _) ?_))
      case b1 => exact eb.out
      intro v4 w4 h4 _ _
      have H4 : Hid (OwnS w.heap.size w v4 ((l.take (k + 1)).map encS) w4) := by show OwnS _ _ _ _ _; rw [HN.out, List.map_take]; exact h4
      clear h4
      go_wp2_with fail
      go_roundw
      case rel => exact ⟨k + 1, by omega, by go_num, H4.out⟩
      case measure => simp [intOf]; omega
    · obtain rfl : k = l.length := by omega
      have hgs := HO.out.ss
      rw [List.take_length] at hgs
      have HB3 := Lib.hid HO.out.2.1
      obtain ⟨A5, c5, rfl, hcp, _, hcc⟩ := hgs
      have HCC := Lib.hid hcc
      clear hcc
      by_cases h0 : l.length = 0
      · obtain rfl : l = [] := List.eq_nil_of_length_eq_zero h0
        go_wp2_with (first | (go_at_call 100; refine (Tryz.strings_Join_none _ _ _ _).mono ?_; rintro e w6 ⟨rfl, rfl⟩))
        go_ret
        exact ⟨rfl, HB3.out⟩
      · obtain ⟨b, o, rfl, hz⟩ := HCC.out 0 (by rw [List.length_map]; omega)
        have hlt := World.block_lt_of_cell? _ _ hz
        clear hz
        have HJ : Hid (∀ (j : Nat) x, (l.map encS)[j]? = some x → wr.cell? ⟨b, o + j, none⟩ = some (.string x)) := by
          intro j x hx
          have hj : j < (l.map encS).length := (List.getElem?_eq_some_iff.1 hx).1
          obtain ⟨b', o', e, hz⟩ := HCC.out j hj
          cases e
          rw [hz]
          simp only [List.getD, hx, Option.getD_some]
        go_wp2_with (first | (go_at_call 100; refine (join59 b o c5 _ l _ rfl HJ.out hlt (by simpa using hcp) HS.out hl).mono ?_; rintro e w6 ⟨rfl, h6⟩; have H6 := Lib.hid h6; clear h6))
        go_ret
        exact ⟨rfl, HB3.out.trans (H6.out.mono HB3.out.size)⟩

/-! tell -/
def tlS (g : Sg) (t : List ByteArray) : ByteArray := (tlV g t).getD ⟨#[]⟩
def tlB (g : Sg) (t : List ByteArray) : Bool := (tlV g t).isSome
theorem tl_cases (g1 : Int) (g2 : ByteArray) (t : List ByteArray) :
    (g1 = 3 ∧ tlS (g1, g2) t = jnT t ∧ tlB (g1, g2) t = true) ∨ (g1 = 0 ∧ tlS (g1, g2) t = ⟨#[]⟩ ∧ tlB (g1, g2) t = false) ∨
    (g1 ≠ 3 ∧ g1 ≠ 0 ∧ t = [] ∧ tlS (g1, g2) t = ⟨#[]⟩ ∧ tlB (g1, g2) t = false) ∨ (g1 ≠ 3 ∧ g1 ≠ 0 ∧ 0 < t.length ∧ tlS (g1, g2) t = t.getD 0 default ∧ tlB (g1, g2) t = true) := by
  by_cases h3 : g1 = 3
  · subst h3; exact Or.inl ⟨rfl, rfl, rfl⟩
  by_cases h0 : g1 = 0
  · subst h0; exact Or.inr (Or.inl ⟨rfl, rfl, rfl⟩)
  by_cases ht : t = []
  · refine Or.inr (Or.inr (Or.inl ⟨h3, h0, ht, ?_, ?_⟩)) <;> simp [tlS, tlB, tlV, h3, h0, ht]
  · refine Or.inr (Or.inr (Or.inr ⟨h3, h0, List.length_pos_iff.2 ht, ?_, ?_⟩)) <;> simp [tlS, tlB, tlV, h3, h0, ht]

set_option maxHeartbeats 1600000 in
theorem tell26 (g1 : Int) (g2 : ByteArray) (v : Value) (t : List ByteArray) (w : World) (h : Ss w v t) (hs : ∀ s ∈ t, s.size ≤ 100000000) (hl : t.length ≤ 1000) :
    Calls Tryz.prog 68 #[.agg #[.int .i64 g1, .string g2], v] w fun e w' => e = .returned (.tuple #[.string (tlS (g1, g2) t), .bool (tlB (g1, g2) t)]) ∧ Below w.heap.size w w' := by
  have HB := Lib.hid ((Below.refl w.heap.size w).alloc (Nat.le_refl _) (.cells #[.int .i64 g1, .string g2] 49 (0, 0)))
  have HSs := Lib.hid (h.call HB.out)
  have HS := Lib.hid hs
  obtain ⟨A, cap, rfl, _, _, hc⟩ := h
  have HC := Lib.hid hc
  clear hc hs
  rcases tl_cases g1 g2 t with ⟨rfl, e1, e2⟩ | ⟨rfl, e1, e2⟩ | ⟨c3, c0, rfl, e1, e2⟩ | ⟨c3, c0, hp, e1, e2⟩
  · rw [e1, e2]
    clear e1 e2
    go_enter Tryz.func68, Tryz.ntmps68
    go_wp2_with (first | (go_at_call 83; refine (join44 _ _ _ HSs.out HS.out hl).mono ?_; rintro e w6 ⟨rfl, h6⟩; have H6 := Lib.hid h6; clear h6))
    go_ret2
    exact ⟨rfl, HB.out.trans (H6.out.mono HB.out.size)⟩
  · rw [e1, e2]
    clear e1 e2
    go_enter Tryz.func68, Tryz.ntmps68
    go_wp2
    go_ret2
    exact ⟨rfl, HB.out⟩
  · rw [e1, e2]
    clear e1 e2
    have q3 : (g1 == 3) = false := by simpa using c3
    have q0 : (g1 == 0) = false := by simpa using c0
    go_enter Tryz.func68, Tryz.ntmps68
    go_wp2
    go_ret2
    exact ⟨rfl, HB.out⟩
  · rw [e1, e2]
    obtain ⟨b, o, rfl, hcell⟩ := HC.out 0 hp
    rw [Nat.add_zero] at hcell
    have g : ∀ ob, (w.alloc ob).cell? ⟨b, o, none⟩ = some (.string (t.getD 0 default)) := fun ob => by
      rw [World.cell?_of_block (w := w) (Below.heap_alloc _ _ _ (World.block_lt_of_cell? _ _ hcell))]; exact hcell
    clear e1 e2 hcell
    have q3 : (g1 == 3) = false := by simpa using c3
    have q0 : (g1 == 0) = false := by simpa using c0
    have c5 : ¬ (t.length : Int) = 0 := by omega
    have c1 : ((t.length : Int) == 0) = false := by simpa using c5
    have c4 : (0 : Int) < (t.length : Int) := by omega
    generalize t.getD 0 default = x at *
    go_enter Tryz.func68, Tryz.ntmps68
    go_wp2
    go_ret2
    exact ⟨rfl, HB.out⟩
end Go.Proofs.YtnnmbpghkflepaaGreatDoor
