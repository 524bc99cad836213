/-
  Put together: Take, Mtc.
-/
import Derived.Test.YthigandmemifoaaGreatDoorP12
import Derived.Test.YthigandmemifoaaGreatDoorP10
namespace Go.Proofs.YthigandmemifoaaGreatDoor
open Go.RowKit Go.PlainAid
set_option maxRecDepth 100000

def tkI (g : Sg) (left : List ByteArray) : Nat := (tkN g left).getD 0
def tkB (g : Sg) (left : List ByteArray) : Bool := (tkN g left).isSome
theorem tk_cases (g1 : Int) (g2 : ByteArray) (left : List ByteArray) :
    (g1 = 2 ∧ tkI (g1, g2) left = min left.length 1 ∧ tkB (g1, g2) left = true) ∨ (g1 = 3 ∧ tkI (g1, g2) left = left.length ∧ tkB (g1, g2) left = true) ∨
    (g1 ≠ 2 ∧ g1 ≠ 3 ∧ left = [] ∧ tkI (g1, g2) left = 0 ∧ tkB (g1, g2) left = false) ∨
    (g1 = 0 ∧ 0 < left.length ∧ left.getD 0 default ≠ g2 ∧ tkI (g1, g2) left = 0 ∧ tkB (g1, g2) left = false) ∨
    (g1 = 0 ∧ 0 < left.length ∧ left.getD 0 default = g2 ∧ tkI (g1, g2) left = 1 ∧ tkB (g1, g2) left = true) ∨
    (g1 ≠ 0 ∧ g1 ≠ 2 ∧ g1 ≠ 3 ∧ 0 < left.length ∧ tkI (g1, g2) left = 1 ∧ tkB (g1, g2) left = true) := by
  by_cases h2 : g1 = 2
  · subst h2; exact Or.inl ⟨rfl, rfl, rfl⟩
  by_cases h3 : g1 = 3
  · subst h3; exact Or.inr (Or.inl ⟨rfl, rfl, rfl⟩)
  by_cases hl : left = []
  · refine Or.inr (Or.inr (Or.inl ⟨h2, h3, hl, ?_, ?_⟩)) <;> simp [tkI, tkB, tkN, h2, h3, hl]
  have hp : 0 < left.length := List.length_pos_iff.2 hl
  by_cases h0 : g1 = 0
  · subst h0
    by_cases he : left.getD 0 default = g2
    · refine Or.inr (Or.inr (Or.inr (Or.inr (Or.inl ⟨rfl, hp, he, ?_, ?_⟩)))) <;> simp [tkI, tkB, tkN, hl, he, -List.getD_eq_getElem?_getD]
    · refine Or.inr (Or.inr (Or.inr (Or.inl ⟨rfl, hp, he, ?_, ?_⟩))) <;> simp [tkI, tkB, tkN, hl, he, -List.getD_eq_getElem?_getD]
  · refine Or.inr (Or.inr (Or.inr (Or.inr (Or.inr ⟨h0, h2, h3, hp, ?_, ?_⟩)))) <;> simp [tkI, tkB, tkN, h2, h3, hl, h0]

set_option maxHeartbeats 1600000 in
theorem take25 (g1 : Int) (g2 : ByteArray) (v : Value) (left : List ByteArray) (w : World) (h : Ss w v left) :
    Calls Tryz.prog 100 #[.agg #[.int .i64 g1, .string g2], v] w fun e w' => e = .returned (.tuple #[.int .i64 (tkI (g1, g2) left), .bool (tkB (g1, g2) left)]) ∧ Below w.heap.size w w' := by
  obtain ⟨A, cap, rfl, _, _, hc⟩ := h
  have HC := Lib.hid hc
  clear hc
  have HB := Lib.hid ((Below.refl w.heap.size w).alloc (Nat.le_refl _) (.cells #[.int .i64 g1, .string g2] 28 (0, 0)))
  rcases tk_cases g1 g2 left with ⟨rfl, e1, e2⟩ | ⟨rfl, e1, e2⟩ | ⟨c2, c3, rfl, e1, e2⟩ | ⟨rfl, hp, he, e1, e2⟩ | ⟨rfl, hp, he, e1, e2⟩ | ⟨c0, c2, c3, hp, e1, e2⟩
  · have hm : min (left.length : Int) 1 = ((min left.length 1 : Nat) : Int) := by omega
    rw [e1, e2]
    clear e1 e2
    go_enter Tryz.func100, Tryz.ntmps100
    go_wp2
    go_ret2
    exact ⟨by first | rfl | (rw [hm]), HB.out⟩
  · rw [e1, e2]
    clear e1 e2
    go_enter Tryz.func100, Tryz.ntmps100
    go_wp2
    go_ret2
    exact ⟨rfl, HB.out⟩
  · rw [e1, e2]
    clear e1 e2
    go_enter Tryz.func100, Tryz.ntmps100
    go_wp2_with fail
    go_region
    go_wp2
    go_ret2
    exact ⟨rfl, HB.out.drew⟩
  · rw [e1, e2]
    have q := str_bne _ _ he
    obtain ⟨b, o, rfl, hcell⟩ := HC.out 0 hp
    rw [Nat.add_zero] at hcell
    have g : ∀ ob, (w.alloc ob).cell? ⟨b, o, none⟩ = some (.string (left.getD 0 default)) := fun ob => by
      rw [World.cell?_of_block (w := w) (Below.heap_alloc _ _ _ (World.block_lt_of_cell? _ _ hcell))]; exact hcell
    clear e1 e2 he hcell
    have c0 : ¬ (left.length : Int) = 0 := by omega
    have c1 : ((left.length : Int) == 0) = false := by simpa using c0
    have c4 : (0 : Int) < (left.length : Int) := by omega
    generalize left.getD 0 default = x at *
    go_enter Tryz.func100, Tryz.ntmps100
    go_wp2_with fail
    go_region
    go_wp2
    go_ret2
    exact ⟨rfl, HB.out.drew⟩
  · rw [e1, e2]
    have q := str_beq _ _ he
    obtain ⟨b, o, rfl, hcell⟩ := HC.out 0 hp
    rw [Nat.add_zero] at hcell
    have g : ∀ ob, (w.alloc ob).cell? ⟨b, o, none⟩ = some (.string (left.getD 0 default)) := fun ob => by
      rw [World.cell?_of_block (w := w) (Below.heap_alloc _ _ _ (World.block_lt_of_cell? _ _ hcell))]; exact hcell
    clear e1 e2 he hcell
    have c0 : ¬ (left.length : Int) = 0 := by omega
    have c1 : ((left.length : Int) == 0) = false := by simpa using c0
    have c4 : (0 : Int) < (left.length : Int) := by omega
    generalize left.getD 0 default = x at *
    go_enter Tryz.func100, Tryz.ntmps100
    go_wp2_with fail
    go_region
    go_wp2
    go_ret2
    exact ⟨rfl, HB.out.drew⟩
  · rw [e1, e2]
    clear e1 e2
    have c5 : ¬ (left.length : Int) = 0 := by omega
    have c1 : ((left.length : Int) == 0) = false := by simpa using c5
    have c6 : (g1 == 0) = false := by simpa using c0
    go_enter Tryz.func100, Tryz.ntmps100
    go_wp2_with fail
    go_region
    go_wp2
    go_ret2
    exact ⟨rfl, HB.out.drew⟩

/-! join -/
theorem st_of' (l : List UInt8) : (⟨l.toArray⟩ : ByteArray) = st (l.map (fun b => (b.toNat : Int))) := by
  rw [st]
  congr 1
  simp [List.map_map, Function.comp_def]
theorem join_jn : ∀ xs : List (List UInt8), (Lib.join xs [47]).map (fun b => (b.toNat : Int)) = jnL (xs.map (List.map (fun b => (b.toNat : Int)))) := by
  intro xs
  induction xs with
  | nil => rfl
  | cons x r ih =>
    cases r with
    | nil => simp [Lib.join_one, jnL]
    | cons y r =>
      have e : Lib.join (x :: y :: r) [47] = x ++ 47 :: Lib.join (y :: r) [47] := by
        rw [Lib.join_cons, Lib.join_cons]
        simp [Lib.joinTail]
      rw [e, List.map_append, List.map_cons, ih]
      rfl
theorem jn_is (l : List ByteArray) : (⟨(Lib.join ((l.map encS).map (·.data.toList)) [47]).toArray⟩ : ByteArray) = jnT l := by
  rw [st_of', join_jn, jnT, List.map_map, List.map_map]
  congr 2
  apply List.map_congr_left
  intro s _
  exact bs_st (encL_inR (bs_inR s))
theorem jnL_len (B : Nat) : ∀ l : List (List Int), (∀ x ∈ l, x.length ≤ B) → (jnL l).length ≤ l.length * (B + 1) := by
  intro l
  induction l with
  | nil => intro _; simp [jnL]
  | cons x r ih =>
    intro h
    have hx := h x (by simp)
    cases r with
    | nil => simp [jnL]; omega
    | cons y r =>
      have := ih (fun z hz => h z (by simp at hz ⊢; exact Or.inr hz))
      rw [jnL, List.length_append, List.length_cons, List.length_cons, Nat.add_mul]
      omega
theorem join_len (l : List ByteArray) (h : ∀ s ∈ l, s.size ≤ 100000000) (hl : l.length ≤ 1000) : (Lib.join ((l.map encS).map (·.data.toList)) [47]).length ≤ 140737488355328 := by
  have e : (Lib.join ((l.map encS).map (·.data.toList)) [47]).length = (jnL (l.map (fun s => encL (bs s)))).length := by
    have := congrArg ByteArray.size (jn_is l)
    rw [jnT, st_size, Lib.size_eq] at this
    simpa using this
  rw [e]
  have := jnL_len 300000000 (l.map (fun s => encL (bs s))) (by
    intro x hx
    rw [List.mem_map] at hx
    obtain ⟨s, hs, rfl⟩ := hx
    have h1 := encL_len (bs s)
    have h2 := h s hs
    rw [bs_len] at h1
    omega)
  rw [List.length_map] at this
  omega

theorem join59 (b o c n : Nat) (l : List ByteArray) (w : World) (hn : n = l.length) (hcells : ∀ (j : Nat) x, (l.map encS)[j]? = some x → w.cell? ⟨b, o + j, none⟩ = some (.string x)) (hbk : b < w.heap.size) (hc : n ≤ c) (h1 : ∀ s ∈ l, s.size ≤ 100000000) (h2 : l.length ≤ 1000) :
    Calls Tryz.prog 125 #[.slice (some ⟨b, o, none⟩) n c, .string ⟨#[47]⟩] w fun e w' => e = .returned (.string (jnT l)) ∧ Below w.heap.size w w' := by
  have hl : (l.map encS).length = n := by simp [hn]
  have := Tryz.strings_Join b o c (l.map encS) ⟨#[47]⟩ w hcells hbk (by omega) (by omega) (join_len l h1 h2)
  rw [hl] at this
  refine this.mono ?_
  rintro e w' ⟨rfl, h⟩
  rw [← jn_is]
  exact ⟨rfl, h⟩

set_option maxHeartbeats 1600000 in
theorem join44 (v : Value) (l : List ByteArray) (w : World) (h : Ss w v l) (hs : ∀ s ∈ l, s.size ≤ 100000000) (hl : l.length ≤ 1000) :
    Calls Tryz.prog 111 #[v] w fun e w' => e = .returned (.string (jnT l)) ∧ Below w.heap.size w w' := by
  obtain ⟨A, cap, rfl, _, _, hc⟩ := h
  have HC := Lib.hid hc
  have HS := Lib.hid hs
  clear hc hs
  go_enter Tryz.func111, Tryz.ntmps111
  go_wp2_with (at_make; refine wpList_mkS _ rfl _ _ rfl w.heap.size w (Below.refl _ _) (Nat.le_refl _) _ l.length rfl rfl rfl (by omega) ?_)
  intro v2 w2 h2 _
  have H2 := Lib.hid h2
  clear h2
  go_wp2_with fail
  go_loopw [3, 11] (fun v i wr => ∃ (k : Nat), k ≤ l.length ∧ i = .int .i64 k ∧ OwnS w.heap.size w v ((l.take k).map encS) wr) (fun _ i _ => l.length - (intOf i).toNat)
  case atStart => exact ⟨0, Nat.zero_le _, rfl, H2.out⟩
  case round =>
    obtain ⟨k, hk, rfl, hown⟩ := hrel
    have HO := Lib.hid hown
    clear hown
    by_cases hlt : k < l.length
    · have d0 : (k : Int) < (l.length : Int) := by omega
      obtain ⟨x, o, rfl, hcell⟩ := HC.out k hlt
      have g1 : wr.cell? ⟨x, o + k, none⟩ = some (.string (l.getD k default)) := by rw [HO.out.2.1.cell (World.block_lt_of_cell? _ _ hcell)]; exact hcell
      have hsz : (l.getD k default).size ≤ 100000000 := HS.out _ (getD_mem l k hlt)
      have HN := Lib.hid (take_next encS l k hlt)
      have eb : Hid (((l.take k).map encS).length ≤ 1000000000) := by show _ ≤ _; rw [List.length_map, List.length_take]; omega
      clear hcell
      generalize l.getD k default = p at *
      go_wp2_with (first | (go_at_call 24; refine (encodeP _ _ hsz).mono ?_; rintro e w3 ⟨rfl, h3⟩; have HO3 := Lib.hid (HO.out.call h3); clear h3) | (at_builtin; refine wpList_appS _ rfl (.tmp 15) (.tmp 18) rfl w.heap.size w _ _ rfl (HO3.out.alloc _) ?b1 w3.heap.size 1 1 [encS p] rfl rfl (by omega) (heap_alloc_new _ _) ?_))
      case b1 => exact eb.out
      intro v4 w4 h4 _ _
      have H4 : Hid (OwnS w.heap.size w v4 ((l.take (k + 1)).map encS) w4) := by show OwnS _ _ _ _ _; rw [HN.out, List.map_take]; exact h4
      clear h4
      go_wp2_with fail
      go_roundw
      case rel => exact ⟨k + 1, by omega, by go_num, H4.out⟩
      case measure => simp [intOf]; omega
    · obtain rfl : k = l.length := by omega
      have hgs := HO.out.ss
      rw [List.take_length] at hgs
      have HB3 := Lib.hid HO.out.2.1
      obtain ⟨A5, c5, rfl, hcp, _, hcc⟩ := hgs
      have HCC := Lib.hid hcc
      clear hcc
      by_cases h0 : l.length = 0
      · obtain rfl : l = [] := List.eq_nil_of_length_eq_zero h0
        go_wp2_with (first | (go_at_call 125; refine (Tryz.strings_Join_none _ _ _ _).mono ?_; rintro e w6 ⟨rfl, rfl⟩))
        go_ret
        exact ⟨rfl, HB3.out⟩
      · obtain ⟨b, o, rfl, hz⟩ := HCC.out 0 (by rw [List.length_map]; omega)
        have hlt := World.block_lt_of_cell? _ _ hz
        clear hz
        have HJ : Hid (∀ (j : Nat) x, (l.map encS)[j]? = some x → wr.cell? ⟨b, o + j, none⟩ = some (.string x)) := by
          intro j x hx
          have hj : j < (l.map encS).length := (List.getElem?_eq_some_iff.1 hx).1
          obtain ⟨b', o', e, hz⟩ := HCC.out j hj
          cases e
          rw [hz]
          simp only [List.getD, hx, Option.getD_some]
        go_wp2_with (first | (go_at_call 125; refine (join59 b o c5 _ l _ rfl HJ.out hlt (by simpa using hcp) HS.out hl).mono ?_; rintro e w6 ⟨rfl, h6⟩; have H6 := Lib.hid h6; clear h6))
        go_ret
        exact ⟨rfl, HB3.out.trans (H6.out.mono HB3.out.size)⟩

/-! tell -/
def tlS (g : Sg) (t : List ByteArray) : ByteArray := (tlV g t).getD ⟨#[]⟩
def tlB (g : Sg) (t : List ByteArray) : Bool := (tlV g t).isSome
theorem tl_cases (g1 : Int) (g2 : ByteArray) (t : List ByteArray) :
    (g1 = 3 ∧ tlS (g1, g2) t = jnT t ∧ tlB (g1, g2) t = true) ∨ (g1 = 0 ∧ tlS (g1, g2) t = ⟨#[]⟩ ∧ tlB (g1, g2) t = false) ∨
    (g1 ≠ 3 ∧ g1 ≠ 0 ∧ t = [] ∧ tlS (g1, g2) t = ⟨#[]⟩ ∧ tlB (g1, g2) t = false) ∨ (g1 ≠ 3 ∧ g1 ≠ 0 ∧ 0 < t.length ∧ tlS (g1, g2) t = t.getD 0 default ∧ tlB (g1, g2) t = true) := by
  by_cases h3 : g1 = 3
  · subst h3; exact Or.inl ⟨rfl, rfl, rfl⟩
  by_cases h0 : g1 = 0
  · subst h0; exact Or.inr (Or.inl ⟨rfl, rfl, rfl⟩)
  by_cases ht : t = []
  · refine Or.inr (Or.inr (Or.inl ⟨h3, h0, ht, ?_, ?_⟩)) <;> simp [tlS, tlB, tlV, h3, h0, ht]
  · refine Or.inr (Or.inr (Or.inr ⟨h3, h0, List.length_pos_iff.2 ht, ?_, ?_⟩)) <;> simp [tlS, tlB, tlV, h3, h0, ht]

set_option maxHeartbeats 1600000 in
theorem tell26 (g1 : Int) (g2 : ByteArray) (v : Value) (t : List ByteArray) (w : World) (h : Ss w v t) (hs : ∀ s ∈ t, s.size ≤ 100000000) (hl : t.length ≤ 1000) :
    Calls Tryz.prog 101 #[.agg #[.int .i64 g1, .string g2], v] w fun e w' => e = .returned (.tuple #[.string (tlS (g1, g2) t), .bool (tlB (g1, g2) t)]) ∧ Below w.heap.size w w' := by
  have HB := Lib.hid ((Below.refl w.heap.size w).alloc (Nat.le_refl _) (.cells #[.int .i64 g1, .string g2] 28 (0, 0)))
  have HSs := Lib.hid (h.call HB.out)
  have HS := Lib.hid hs
  obtain ⟨A, cap, rfl, _, _, hc⟩ := h
  have HC := Lib.hid hc
  clear hc hs
  rcases tl_cases g1 g2 t with ⟨rfl, e1, e2⟩ | ⟨rfl, e1, e2⟩ | ⟨c3, c0, rfl, e1, e2⟩ | ⟨c3, c0, hp, e1, e2⟩
  · rw [e1, e2]
    clear e1 e2
    go_enter Tryz.func101, Tryz.ntmps101
    go_wp2_with (first | (go_at_call 111; refine (join44 _ _ _ HSs.out HS.out hl).mono ?_; rintro e w6 ⟨rfl, h6⟩; have H6 := Lib.hid h6; clear h6))
    go_ret2
    exact ⟨rfl, HB.out.trans (H6.out.mono HB.out.size)⟩
  · rw [e1, e2]
    clear e1 e2
    go_enter Tryz.func101, Tryz.ntmps101
    go_wp2
    go_ret2
    exact ⟨rfl, HB.out⟩
  · rw [e1, e2]
    clear e1 e2
    have q3 : (g1 == 3) = false := by simpa using c3
    have q0 : (g1 == 0) = false := by simpa using c0
    go_enter Tryz.func101, Tryz.ntmps101
    go_wp2
    go_ret2
    exact ⟨rfl, HB.out⟩
  · rw [e1, e2]
    obtain ⟨b, o, rfl, hcell⟩ := HC.out 0 hp
    rw [Nat.add_zero] at hcell
    have g : ∀ ob, (w.alloc ob).cell? ⟨b, o, none⟩ = some (.string (t.getD 0 default)) := fun ob => by
      rw [World.cell?_of_block (w := w) (Below.heap_alloc _ _ _ (World.block_lt_of_cell? _ _ hcell))]; exact hcell
    clear e1 e2 hcell
    have q3 : (g1 == 3) = false := by simpa using c3
    have q0 : (g1 == 0) = false := by simpa using c0
    have c5 : ¬ (t.length : Int) = 0 := by omega
    have c1 : ((t.length : Int) == 0) = false := by simpa using c5
    have c4 : (0 : Int) < (t.length : Int) := by omega
    generalize t.getD 0 default = x at *
    go_enter Tryz.func101, Tryz.ntmps101
    go_wp2
    go_ret2
    exact ⟨rfl, HB.out⟩
end Go.Proofs.YthigandmemifoaaGreatDoor

namespace Go.Proofs.YthigandmemifoaaGreatDoor
open Go.RowKit Go.PlainAid
set_option maxRecDepth 100000

theorem mt_some {l : List Sg} {path : List ByteArray} (hr : rgB l = true) : mtB l path = (mtR l path).isSome ∧ mtL l path = (mtR l path).getD [] := by
  rw [mtB, mtL, mtO, if_pos hr]
  exact ⟨rfl, rfl⟩
theorem mt_wrong {l : List Sg} {path : List ByteArray} (hr : rgB l = false) : mtB l path = false ∧ mtL l path = [] := by
  rw [mtB, mtL, mtO, if_neg (by rw [hr]; decide)]
  exact ⟨rfl, rfl⟩
theorem tk_le (g : Sg) (left : List ByteArray) : tkI g left ≤ left.length := by
  obtain ⟨g1, g2⟩ := g
  rcases tk_cases g1 g2 left with ⟨_, e, _⟩ | ⟨_, e, _⟩ | ⟨_, _, _, e, _⟩ | ⟨_, _, _, e, _⟩ | ⟨_, hp, _, e, _⟩ | ⟨_, _, _, hp, e, _⟩ <;> omega
theorem tk_some {g : Sg} {left : List ByteArray} (h : tkB g left = true) : tkN g left = some (tkI g left) := by
  unfold tkB at h
  unfold tkI
  obtain ⟨n, hn⟩ := Option.isSome_iff_exists.1 h
  rw [hn]; rfl
theorem tk_none {g : Sg} {left : List ByteArray} (h : tkB g left = false) : tkN g left = none := by
  unfold tkB at h
  simpa using h
theorem tl_some {g : Sg} {t : List ByteArray} (h : tlB g t = true) : tlP g t = [(g.2, tlS g t)] := by
  unfold tlB at h
  obtain ⟨v, hv⟩ := Option.isSome_iff_exists.1 h
  unfold tlP tlS
  rw [hv]; rfl
theorem tl_none {g : Sg} {t : List ByteArray} (h : tlB g t = false) : tlP g t = [] := by
  unfold tlB at h
  have : tlV g t = none := by simpa using h
  unfold tlP
  rw [this]
theorem Ss.take {w : World} {A : Option Addr} {n c : Nat} {l : List ByteArray} (h : Ss w (.slice A n c) l) (k : Nat) (hk : k ≤ l.length) : Ss w (.slice A k c) (l.take k) := by
  obtain ⟨A', cap, e, h1, h2, h3⟩ := h
  simp only [Value.slice.injEq] at e
  obtain ⟨rfl, _, rfl⟩ := e
  have hl : (l.take k).length = k := by simp; omega
  refine ⟨A, c, by rw [hl], by omega, h2, fun i hi => ?_⟩
  obtain ⟨b, o, ha, h4⟩ := h3 i (by omega)
  have e : (l.take k).getD i default = l.getD i default := by
    simp only [List.getD]
    rw [List.getElem?_take_of_lt (by omega)]
  rw [e]
  exact ⟨b, o, ha, h4⟩
theorem Ss.rest {w : World} {A : Option Addr} {n c : Nat} {l : List ByteArray} (h : Ss w (.slice A n c) l) (k : Nat) (hk : k ≤ l.length) : Ss w (.slice (if c = k then A else Option.map (fun x => x.add k) A) (l.length - k) (c - k)) (l.drop k) := by
  obtain ⟨A', cap, e, h1, h2, h3⟩ := h
  simp only [Value.slice.injEq] at e
  obtain ⟨rfl, _, rfl⟩ := e
  have hl : (l.drop k).length = l.length - k := by simp
  refine ⟨_, c - k, by rw [hl], by rw [hl]; omega, ?_, fun i hi => ?_⟩
  · intro hA
    split at hA
    · rename_i e; omega
    · rw [Option.map_eq_none_iff] at hA
      have := h2 hA
      omega
  · rw [hl] at hi
    obtain ⟨b, o, ha, h4⟩ := h3 (k + i) (by omega)
    subst ha
    refine ⟨b, o + k, ?_, ?_⟩
    · rw [if_neg (by omega), Option.map_some, Addr.add_lit]
    · have e : (l.drop k).getD i default = l.getD (k + i) default := by simp [List.getD]
      rw [e, Nat.add_assoc]
      exact h4
/-- what Match has come to -/
def MtMid (l : List Sg) (path : List ByteArray) (k : Nat) (lf : List ByteArray) (ps : List Pr) : Prop :=
  mtR l path = (mtR (l.drop k) lf).map (ps ++ ·) ∧ (∀ s ∈ lf, s.size ≤ 100000000) ∧ lf.length ≤ 1000 ∧ ps.length ≤ k
theorem mid_next {l : List Sg} {path : List ByteArray} {k n : Nat} {lf : List ByteArray} {ps : List Pr} {g : Sg} {q : List Pr} (h : MtMid l path k lf ps)
    (ht : mtR (l.drop k) lf = (mtR (l.drop (k + 1)) (lf.drop n)).map (fun q => tlP g (lf.take n) ++ q)) (hq : tlP g (lf.take n) = q) (hq1 : q.length ≤ 1) : MtMid l path (k + 1) (lf.drop n) (ps ++ q) := by
  obtain ⟨h1, h2, h3, h4⟩ := h
  refine ⟨?_, fun s hs => h2 s (List.mem_of_mem_drop hs), by rw [List.length_drop]; omega, by rw [List.length_append]; omega⟩
  rw [h1, ht, Option.map_map, hq]
  congr 1
  funext z
  simp

set_option maxHeartbeats 3200000 in
set_option maxRecDepth 100000 in
theorem match8 (v1 v2 : Value) (l : List Sg) (path : List ByteArray) (w : World) (h1 : Gs w v1 l) (h2 : Ss w v2 path) (hs : ∀ s ∈ path, s.size ≤ 100000000) (hl : path.length ≤ 1000) :
    Calls Tryz.prog 84 #[v1, v2] w fun e w' => ∃ v, e = .returned (.tuple #[v, .bool (mtB l path)]) ∧ Ps w' v (mtL l path) ∧ Below w.heap.size w w' := by
  by_cases hr : rgB l = true
  · have HG := Lib.hid h1
    have HS := Lib.hid h2
    have hl8 := rg_len hr
    have HE := Lib.hid (mt_some (path := path) hr)
    have HZ := Lib.hid hs
    obtain ⟨A, cap, rfl, hcap, _, hc⟩ := h1
    have HC := Lib.hid hc
    obtain ⟨A2, n2, c2, rfl⟩ := h2.shape
    clear hc h2 hs
    go_enter Tryz.func84, Tryz.ntmps84
    go_wp2_with (first | (go_at_call 79; refine (right16 _ _ _ HG.out).mono ?_; rintro e w6 ⟨rfl, h6⟩; rw [hr]; have H6 := Lib.hid h6; clear h6))
    go_loopw [6, 7, 20] (fun p f i wr => ∃ (k : Nat) (lf : List ByteArray) (ps : List Pr), k ≤ l.length ∧ i = .int .i64 k ∧ Ss w6 f lf ∧ OwnP w6.heap.size w6 p ps wr ∧ MtMid l path k lf ps) (fun _ _ i _ => l.length - (intOf i).toNat)
    case atStart => exact ⟨0, path, [], Nat.zero_le _, rfl, HS.out.call H6.out, nilP _ _ _ (Below.refl _ _) (Nat.le_refl _), by simp, HZ.out, hl, by simp⟩
    case round =>
      obtain ⟨k, lf, ps, hk, rfl, hss, hown, hmid⟩ := hrel
      have HSS := Lib.hid hss
      have HO := Lib.hid hown
      have HM := Lib.hid hmid
      obtain ⟨A7, c7, rfl, hcp7, hn7, _⟩ := hss
      clear hown hmid
      by_cases hlt : k < l.length
      · have d0 : (k : Int) < (l.length : Int) := by omega
        obtain ⟨x, o, rfl, hcell, hcelb⟩ := HC.out k hlt
        have hbz := HO.out.2.1
        have hlx := World.block_lt_of_cell? _ _ hcell
        have g1 : wr.cell? ⟨x, o + k * 2, none⟩ = some (.int .i64 (l.getD k default).1) := by rw [hbz.cell (by have := H6.out.size; exact Nat.lt_of_lt_of_le hlx this), H6.out.cell hlx]; exact hcell
        have g3 : wr.cell? ⟨x, o + k * 2 + 1, none⟩ = some (.string (l.getD k default).2) := by rw [hbz.cell (by have := H6.out.size; exact Nat.lt_of_lt_of_le (World.block_lt_of_cell? _ _ hcelb) this), H6.out.cell (World.block_lt_of_cell? _ _ hcelb)]; exact hcelb
        have HN := Lib.hid (@mt_none l k lf hlt)
        have HT := Lib.hid (fun n => @mt_step l k lf hlt n)
        clear hcell hcelb hbz hlx
        generalize l.getD k default = s at *
        obtain ⟨s1, s2⟩ := s
        simp only at g1 g3
        have HX := Lib.hid (blk_new wr (.cells #[.int .i64 s1, .string s2] 28 (0, 0)))
        have HY := Lib.hid ((Below.refl wr.heap.size wr).alloc (Nat.le_refl _) (.cells #[.int .i64 s1, .string s2] 28 (0, 0)))
        have HO9 := Lib.hid (HO.out.alloc (.cells #[.int .i64 s1, .string s2] 28 (0, 0)))
        have HS9 := Lib.hid ((HSS.out.call HO.out.2.1).call HY.out)
        go_wp2_with fail
        generalize wr.alloc (.cells #[.int .i64 s1, .string s2] 28) = w9 at *
        by_cases ht : tkB (s1, s2) lf = true
        · have hle := tk_le (s1, s2) lf
          have HT1 := Lib.hid (HT.out _ (tk_some ht))
          obtain ⟨n, hn⟩ : ∃ n, tkI (s1, s2) lf = n := ⟨_, rfl⟩
          rw [hn] at hle HT1
          refine (take25 _ _ _ _ _ HS9.out).mono ?_
          rintro e w1 ⟨rfl, h1⟩
          rw [ht, hn]
          have HX1 := Lib.hid (blk_call HX.out h1)
          have HO1 := Lib.hid (HO9.out.call h1)
          have HS1 := Lib.hid (HS9.out.call h1)
          obtain ⟨k0, k1, _, _⟩ := blk2 HX1.out
          clear h1 HX HO9 HS9 HS HO
          have n1 : (n : Int) ≤ (lf.length : Int) := by omega
          have n2 : (n : Int) ≤ (c7 : Int) := by omega
          have HTK := Lib.hid (HS1.out.take n hle)
          have HZT : Hid (∀ s ∈ lf.take n, s.size ≤ 100000000) := fun s hs => HM.out.2.1 s (List.mem_of_mem_take hs)
          have hlt2 : (lf.take n).length ≤ 1000 := by have := HM.out.2.2.1; rw [List.length_take]; omega
          have KS : Hid (∀ w' : World, Below w1.heap.size w1 w' → w'.cell? ⟨wr.heap.size, 0, none⟩ = some (.int .i64 s1) ∧ w'.cell? ⟨wr.heap.size, 1, none⟩ = some (.string s2) ∧ Below w1.heap.size w1 w') := by
            intro w' hk
            obtain ⟨a, b, _, _⟩ := blk2 (blk_call HX1.out hk)
            exact ⟨a, b, hk⟩
          go_wp2_with fail
          by_cases hq : tlB (s1, s2) (lf.take n) = true
          · obtain ⟨T, hT⟩ : ∃ T, tlS (s1, s2) (lf.take n) = T := ⟨_, rfl⟩
            have HP := Lib.hid (tl_some hq)
            rw [hT] at HP
            go_region_held3 (fun w' => w'.cell? ⟨wr.heap.size, 0, none⟩ = some (.int .i64 s1) ∧ w'.cell? ⟨wr.heap.size, 1, none⟩ = some (.string s2) ∧ Below w1.heap.size w1 w')
              (first | exact KS.out _ ((Below.refl _ _).drew) | exact KS.out _ M3.out)
              (first
                | (go_at_call 101; refine (tell26 _ _ _ (lf.take n) _ (HTK.out.call ((Below.refl _ _).drew)) HZT.out hlt2).mono ?_; rintro e w3 ⟨rfl, h⟩; rw [hq, hT]; have M3 := Lib.hid (((Below.refl w1.heap.size w1).drew).trans h); clear h))
            have HO3 := Lib.hid (HO1.out.call M3.out)
            have HS3 := Lib.hid (HS1.out.call M3.out)
            obtain ⟨k2, k3, _, _⟩ := blk2 (blk_call HX1.out M3.out)
            clear k0 k1
            have eb : Hid (ps.length ≤ 1000000000) := by have := HM.out.2.2.2; show _ ≤ _; omega
            go_wp2_with (first | (at_builtin; refine wpList_appP _ rfl (.tmp 41) (.tmp 46) rfl w6.heap.size w6 _ _ rfl (HO3.out.alloc _) ?b1 w3.heap.size 1 1 [(s2, T)] rfl rfl (by omega) (heap_alloc_new _ _) ?_))
            case b1 => exact eb.out
            intro v4 w4 h4 hg4 _
            have H4 := Lib.hid h4
            have HG4 := Lib.hid hg4
            clear h4 hg4
            go_wp2_with fail
            go_roundw
            case rel => exact ⟨k + 1, lf.drop n, ps ++ [(s2, T)], by omega, by go_num, HSS.out.rest n hle, H4.out, mid_next HM.out HT1.out HP.out (by simp)⟩
            case measure => simp [intOf]; omega
          · have hq : tlB (s1, s2) (lf.take n) = false := by simpa using hq
            obtain ⟨T, hT⟩ : ∃ T, tlS (s1, s2) (lf.take n) = T := ⟨_, rfl⟩
            have HP := Lib.hid (tl_none hq)
            go_region_held3 (fun w' => w'.cell? ⟨wr.heap.size, 0, none⟩ = some (.int .i64 s1) ∧ w'.cell? ⟨wr.heap.size, 1, none⟩ = some (.string s2) ∧ Below w1.heap.size w1 w')
              (first | exact KS.out _ ((Below.refl _ _).drew) | exact KS.out _ M3.out)
              (first
                | (go_at_call 101; refine (tell26 _ _ _ (lf.take n) _ (HTK.out.call ((Below.refl _ _).drew)) HZT.out hlt2).mono ?_; rintro e w3 ⟨rfl, h⟩; rw [hq, hT]; have M3 := Lib.hid (((Below.refl w1.heap.size w1).drew).trans h); clear h))
            have HO3 := Lib.hid (HO1.out.call M3.out)
            clear k0 k1
            go_wp2_with fail
            go_roundw
            case rel => exact ⟨k + 1, lf.drop n, ps ++ [], by omega, by go_num, HSS.out.rest n hle, by rw [List.append_nil]; exact HO3.out, mid_next HM.out HT1.out HP.out (by simp)⟩
            case measure => simp [intOf]; omega
        · have ht : tkB (s1, s2) lf = false := by simpa using ht
          have hR : mtR l path = none := by rw [HM.out.1, HN.out (tk_none ht)]; rfl
          have HE2 : Hid (mtB l path = false ∧ mtL l path = []) := ⟨by rw [HE.out.1, hR]; rfl, by rw [HE.out.2, hR]; rfl⟩
          have HB9 := Lib.hid (H6.out.trans (HO9.out.2.1.mono H6.out.size))
          have hsz9 := HO9.out.2.2
          clear hR
          refine (take25 _ _ _ _ _ HS9.out).mono ?_
          rintro e w1 ⟨rfl, h1⟩
          rw [ht]
          have HB1 := Lib.hid (HB9.out.trans (h1.mono HB9.out.size))
          clear h1
          go_wp2
          rw [HE2.out.1, HE2.out.2]
          go_ret2
          exact ⟨_, rfl, ps_nil _, HB1.out⟩
      · obtain rfl : k = l.length := by omega
        have hR : mtR l path = if lf = [] then some ps else none := by
          rw [HM.out.1, List.drop_length, mtR]
          split <;> simp
        have HBr := Lib.hid (H6.out.trans (HO.out.2.1.mono H6.out.size))
        obtain ⟨A8, n8, c8, hv8⟩ := HO.out.ps.shape
        subst hv8
        by_cases h0 : lf = []
        · subst h0
          rw [if_pos rfl] at hR
          have HE2 : Hid (mtB l path = true ∧ mtL l path = ps) := ⟨by rw [HE.out.1, hR]; rfl, by rw [HE.out.2, hR]; rfl⟩
          clear hR
          go_wp2
          rw [HE2.out.1, HE2.out.2]
          go_ret2
          exact ⟨_, rfl, HO.out.ps, HBr.out⟩
        · rw [if_neg h0] at hR
          have hp := List.length_pos_iff.2 h0
          have c0 : (0 : Int) < (lf.length : Int) := by omega
          have HE2 : Hid (mtB l path = false ∧ mtL l path = []) := ⟨by rw [HE.out.1, hR]; rfl, by rw [HE.out.2, hR]; rfl⟩
          clear hR h0
          go_wp2
          rw [HE2.out.1, HE2.out.2]
          go_ret2
          exact ⟨_, rfl, ps_nil _, HBr.out⟩
  · have hr : rgB l = false := by simpa using hr
    have HG := Lib.hid h1
    have HE := Lib.hid (mt_wrong (path := path) hr)
    obtain ⟨A, n, c, rfl⟩ := h1.shape
    obtain ⟨A2, n2, c2, rfl⟩ := h2.shape
    clear h1 h2
    go_enter Tryz.func84, Tryz.ntmps84
    go_wp2_with (first | (go_at_call 79; refine (right16 _ _ _ HG.out).mono ?_; rintro e w6 ⟨rfl, h6⟩; rw [hr]; have H6 := Lib.hid h6; clear h6))
    rw [HE.out.1, HE.out.2]
    go_ret2
    exact ⟨_, rfl, ps_nil _, H6.out⟩
end Go.Proofs.YthigandmemifoaaGreatDoor
