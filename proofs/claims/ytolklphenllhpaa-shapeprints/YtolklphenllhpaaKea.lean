/-
  porticokeep: pick, Words, deep; nodes as they are read.
-/
import Derived.Test.YtolklphenllhpaaWoo
import Derived.Test.YtolklphenllhpaaCpy
namespace Go.Proofs.Ytolklphenllhpaa
open Go.RowKit Go.PlainAid
set_option maxRecDepth 100000

def wordsL : List ByteArray := [⟨#[97]⟩, ⟨#[98]⟩, ⟨#[105, 116, 101, 109]⟩, ⟨#[120, 32, 121]⟩, ⟨#[37]⟩, ⟨#[97, 47, 98]⟩, ⟨#[46, 46]⟩, ⟨#[122]⟩, ⟨#[49]⟩, ⟨#[108, 105, 115, 116]⟩, ⟨#[255]⟩, ⟨#[63, 61, 38]⟩]
set_option maxHeartbeats 400000 in
theorem words20 (w : World) : Calls Try.prog 20 #[] w fun e w' => e = .returned (.slice (some ⟨w.heap.size, 0, none⟩) 12 12) ∧ w' = w.alloc (.cells (wordsL.map Value.string).toArray 9 (0, 0)) := by
  go_enter Try.func20, Try.ntmps20
  go_wp2
  go_ret
  exact ⟨rfl, rfl⟩

/-- numbers that came in -/
def Ia (w : World) (A : Option Addr) (n : Nat) (f : Nat → Int) : Prop := n ≤ 9223372036854775807 ∧ ∀ i, i < n → ∃ b o, A = some ⟨b, o, none⟩ ∧ w.cell? ⟨b, o + i, none⟩ = some (.int .i64 (f i))
theorem Ia.call {w w' : World} {A : Option Addr} {n : Nat} {f : Nat → Int} (h : Ia w A n f) (hb : Below w.heap.size w w') : Ia w' A n f :=
  ⟨h.1, fun i hi => by obtain ⟨b, o, h1, h2⟩ := h.2 i hi; exact ⟨b, o, h1, by rw [hb.cell (World.block_lt_of_cell? _ _ h2)]; exact h2⟩⟩
set_option maxHeartbeats 400000 in
theorem pick21 (A : Option Addr) (n c : Nat) (f : Nat → Int) (i : Nat) (w : World) (h : Ia w A n f) :
    Calls Try.prog 21 #[.slice A n c, .int .i64 i] w fun e w' => ∃ x : Int, e = .returned (.int .i64 x) ∧ w' = w := by
  by_cases hn : n = 0
  · subst hn
    go_enter Try.func21, Try.ntmps21
    go_wp2
    go_ret
    exact ⟨0, rfl, rfl⟩
  · obtain ⟨m, hm⟩ : ∃ m, i % n = m := ⟨_, rfl⟩
    have hmn : m < n := by rw [← hm]; exact Nat.mod_lt _ (by omega)
    obtain ⟨b, o, rfl, hc⟩ := h.2 m hmn
    have hn1 := h.1
    have c0 : ((n : Int) == 0) = false := by simp; omega
    have c1 : (i : Int).tmod (n : Int) = (m : Int) := by rw [← hm]; rfl
    have c2 : ¬ (n : Int) = 0 := by omega
    have c3 : (m : Int) < (n : Int) := by omega
    go_enter Try.func21, Try.ntmps21
    go_wp2
    go_ret
    exact ⟨_, rfl, rfl⟩
theorem pick21s (A : Option Addr) (n c : Nat) (f : Nat → Int) (i : Nat) (w : World) (h : Ia w A n f) :
    Calls Try.prog 21 #[.slice A n c, .int .i64 ((i : Int) + 1)] w fun e w' => ∃ x : Int, e = .returned (.int .i64 x) ∧ w' = w := by
  have := pick21 A n c f (i + 1) w h
  have e : (((i + 1 : Nat)) : Int) = (i : Int) + 1 := by omega
  rwa [e] at this

/-- so many steps up -/
inductive Dp (l : List Int) : Int → Nat → Prop where
  | out {i : Int} : i < 0 → Dp l i 0
  | step {i d : Nat} : i < l.length → Dp l (l.getD i 0) d → Dp l i (d + 1)
set_option maxHeartbeats 3200000 in
theorem deep22 (v : Value) (l : List Int) (i : Int) (d : Nat) (w : World) (h : Ni w v l) (hd : Dp l i d) (h9 : d ≤ 50) :
    Calls Try.prog 22 #[v, .int .i64 i] w fun e w' => e = .returned (.int .i64 d) ∧ Below w.heap.size w w' := by
  obtain ⟨A, cap, rfl, _, _, hc⟩ := h
  have HC := Lib.hid hc
  have HD := Lib.hid hd
  clear hc hd
  go_enter Try.func22, Try.ntmps22
  go_wp2_with fail
  go_loopw [1, 5] (fun p1 p5 wr => ∃ (i' : Int) (m : Nat), p1 = .int .i64 i' ∧ p5 = .int .i64 m ∧ m ≤ d ∧ Hid (Dp l i' (d - m)) ∧ Hid (Below w.heap.size w wr)) (fun _ p _ => d + 1 - (intOf p).toNat)
  case atStart => exact ⟨i, 0, rfl, rfl, Nat.zero_le _, HD.out, Below.refl _ _⟩
  case round =>
    obtain ⟨i', m, rfl, rfl, hm, HP, BW⟩ := hrel
    clear HD
    have hp := HP.out
    generalize hk : d - m = k at *
    cases hp with
    | out hneg =>
      have d0 : decide (0 ≤ i') = false := decide_eq_false (by omega)
      obtain rfl : m = d := by omega
      clear hneg hk
      go_wp2
      go_ret
      exact ⟨rfl, BW.out⟩
    | @step j k' hj hp' =>
      have d0 : decide ((0 : Int) ≤ (j : Int)) = true := decide_eq_true (by omega)
      have d1 : decide ((m : Int) < 99) = true := decide_eq_true (by omega)
      have d2 : (j : Int) < (l.length : Int) := by omega
      obtain ⟨b, o, rfl, hcell⟩ := HC.out j hj
      have g1 : wr.cell? ⟨b, o + j, none⟩ = some (.int .i64 (l.getD j 0)) := by rw [BW.out.cell (World.block_lt_of_cell? _ _ hcell)]; exact hcell
      have HN : Hid (Dp l (l.getD j 0) (d - (m + 1))) := by rw [show d - (m + 1) = k' by omega]; exact hp'
      have hmd : m + 1 ≤ d := by omega
      clear hcell hp' hk HP
      generalize l.getD j 0 = u at *
      go_wp2_with fail
      go_quiet (fail)
      go_wp2_with fail
      go_roundw
      case rel => exact ⟨u, m + 1, by rfl, by go_num, hmd, HN, belowN BW.out _⟩
      case measure => simp [intOf]; omega

/-- nodes as they are read -/
def Nr (q : Nat → Prop) (w : World) (v : Value) (nd : List Nde) : Prop :=
  ∃ A c, v = .slice A nd.length c ∧ ∀ i, i < nd.length → ∃ b o av, A = some ⟨b, o, none⟩ ∧ w.cell? ⟨b, o + i * 5, none⟩ = some (.string (nd.getD i ⟨⟨#[]⟩, ⟨#[]⟩, ⟨#[]⟩, []⟩).tag) ∧ w.cell? ⟨b, o + i * 5 + 1, none⟩ = some (.string (nd.getD i ⟨⟨#[]⟩, ⟨#[]⟩, ⟨#[]⟩, []⟩).key) ∧ w.cell? ⟨b, o + i * 5 + 2, none⟩ = some (.string (nd.getD i ⟨⟨#[]⟩, ⟨#[]⟩, ⟨#[]⟩, []⟩).text) ∧ w.cell? ⟨b, o + i * 5 + 3, none⟩ = some av ∧ w.cell? ⟨b, o + i * 5 + 4, none⟩ = some (.slice none 0 0) ∧ At q w av (nd.getD i ⟨⟨#[]⟩, ⟨#[]⟩, ⟨#[]⟩, []⟩).attrs ∧ (∀ ad n c, av = .slice (some ad) n c → q ad.block) ∧ (nd.getD i ⟨⟨#[]⟩, ⟨#[]⟩, ⟨#[]⟩, []⟩).attrs.length ≤ 1
theorem At.call {q : Nat → Prop} {w w' : World} {v : Value} {a : List Pr} (h : At q w v a) (hb : Below w.heap.size w w') : At q w' v a := ⟨h.1.call hb, h.2⟩
theorem Nr.call {q : Nat → Prop} {w w' : World} {v : Value} {nd : List Nde} (h : Nr q w v nd) (hb : Below w.heap.size w w') : Nr q w' v nd := by
  obtain ⟨A, c, e, hc⟩ := h
  have g : ∀ (p : Addr) (u : Value), w.cell? p = some u → w'.cell? p = some u := fun p u h => by
    rw [hb.cell (World.block_lt_of_cell? w _ h)]; exact h
  refine ⟨A, c, e, fun i hi => ?_⟩
  obtain ⟨b, o, av, e1, h0, h1, h2, h3, h4, h5, h6⟩ := hc i hi
  exact ⟨b, o, av, e1, g _ _ h0, g _ _ h1, g _ _ h2, g _ _ h3, g _ _ h4, h5.call hb, h6⟩
abbrev ndF (nd : List Nde) : Nat → Nde := fun i => nd.getD i ⟨⟨#[]⟩, ⟨#[]⟩, ⟨#[]⟩, []⟩
abbrev unF (l : List Int) : Nat → Int := fun i => l.getD i 0
theorem kK_next (U : Nat → Int) (a j : Nat) : kK U (j + 1) a = if a < j ∧ U j = (a : Int) then kK U j a ++ [j] else kK U j a := by
  unfold kK
  rw [List.range_succ, List.filter_append]
  split
  · rename_i h; rw [List.filter_cons_of_pos (by simpa using h)]; rfl
  · rename_i h; rw [List.filter_cons_of_neg (by simpa using h)]; simp

end Go.Proofs.Ytolklphenllhpaa
