/-
  Put together: LAll, USplit, URead, UQuery.
-/
import Derived.Test.YthigandmemifoaaGreatDoorP33
import Derived.Deep.CutBlock
import Derived.Deep.DeepCutAuto
import Derived.Test.YthigandmemifoaaGreatDoorP14
import Derived.Deep.RegionHeld3
import Derived.Deep.RegionLaw
import Derived.Laws.ResultCell
import Derived.WalkSpells
namespace Go.Proofs.YthigandmemifoaaGreatDoor
open Go.RowKit Go.PlainAid
set_option maxRecDepth 100000

/-- what all say: the first that isn't Pass, and its place -/
def AllP (n : Nat) (sy : Nat → Int) (tx : Nat → ByteArray) (a : Int) (x : ByteArray) (p : Int) : Prop :=
  (p = -1 ∧ a = 0 ∧ x = ⟨#[]⟩ ∧ ∀ i, i < n → sy i = 0) ∨ ∃ i : Nat, i < n ∧ p = (i : Int) ∧ a = sy i ∧ x = tx i ∧ sy i ≠ 0 ∧ ∀ j, j < i → sy j = 0
theorem AllP.uniq {n : Nat} {sy : Nat → Int} {tx : Nat → ByteArray} {a b : Int} {x y : ByteArray} {p q : Int} (h : AllP n sy tx a x p) (k : AllP n sy tx b y q) : a = b ∧ x = y ∧ p = q := by
  rcases h with ⟨rfl, rfl, rfl, h⟩ | ⟨i, hi, rfl, rfl, rfl, h1, h2⟩
  · rcases k with ⟨rfl, rfl, rfl, k⟩ | ⟨j, hj, rfl, rfl, rfl, k1, k2⟩
    · exact ⟨rfl, rfl, rfl⟩
    · exact absurd (h j hj) k1
  · rcases k with ⟨rfl, rfl, rfl, k⟩ | ⟨j, hj, rfl, rfl, rfl, k1, k2⟩
    · exact absurd (k i hi) h1
    · have : i = j := by
        rcases Nat.lt_trichotomy i j with h | h | h
        · exact absurd (k2 i h) h1
        · exact h
        · exact absurd (h2 j h) k1
      subst this
      exact ⟨rfl, rfl, rfl⟩

/-- what the rules say by these flags -/
def syF (gr : Nat → Rl) (n : Nat) (g : Nat → Bool) (i : Nat) : Int := sayI (gr i).k (fsB n g (gr i).f)
def txF (gr : Nat → Rl) (n : Nat) (g : Nat → Bool) (i : Nat) : ByteArray := toT (gr i).k (fsB n g (gr i).f) (gr i).t
def AllPost (m : Nat) (gr : Nat → Rl) (n : Nat) (g : Nat → Bool) (w : World) (e : Ending) (w' : World) : Prop :=
  ∃ a x p, e = .returned (.tuple #[.int .i64 a, .string x, .int .i64 p]) ∧ AllP m (syF gr n g) (txF gr n g) a x p ∧ Below w.heap.size w w'

theorem AskPost_eq (r : Rl) (n : Nat) (g : Nat → Bool) (w : World) : AskPost r n g w = fun e w' => e = .returned (.tuple #[.int .i64 (sayI r.k (fsB n g r.f)), .string (toT r.k (fsB n g r.f) r.t)]) ∧ Below w.heap.size w w' := rfl
set_option maxHeartbeats 3200000 in
theorem all10 (v u : Value) (m n : Nat) (gr : Nat → Rl) (g : Nat → Bool) (w : World) (h : Rls w v m gr) (hz : m ≤ 1000) (k : Bs w u n g) :
    Calls Tryz.prog 15 #[v, u] w (AllPost m gr n g w) := by
  have HR := Lib.hid h
  have HS := Lib.hid k
  obtain ⟨A, c, rfl⟩ := h.shape
  obtain ⟨A2, c2, rfl⟩ := k.shape
  clear h k
  go_enter Tryz.func15, Tryz.ntmps15
  go_wp2_with fail
  go_loopw [13] (fun s wr => ∃ k : Nat, k ≤ m ∧ s = .int .i64 k ∧ Hid (Below w.heap.size w wr) ∧ Hid (∀ i, i < k → syF gr n g i = 0)) (fun s _ => m - (intOf s).toNat)
  case atStart => exact ⟨0, Nat.zero_le _, rfl, Below.refl _ _, fun i hi => by omega⟩
  case round =>
    obtain ⟨k, hk, rfl, HB, HP⟩ := hrel
    by_cases hlt : k < m
    · have d0 : (k : Int) < (m : Int) := by omega
      obtain ⟨A', c', e', _, _, h4⟩ := HR.out.call HB.out
      cases e'
      obtain ⟨b, o, rfl, hat⟩ := h4 k hlt
      have E : Hid (syF gr n g k = sayI (gr k).k (fsB n g (gr k).f) ∧ txF gr n g k = toT (gr k).k (fsB n g (gr k).f) (gr k).t) := ⟨rfl, rfl⟩
      clear h4
      generalize gr k = r at *
      obtain ⟨g0, g1, g2⟩ := hat
      have HB1 := Lib.hid (HB.out.alloc HB.out.size (.cells #[.int .i64 r.k, .int .i64 r.f, .string r.t] 23 (0, 0)))
      have HS1 := Lib.hid (HS.out.call HB1.out)
      go_upto_region 4 with fail
      have c0 : (wr.alloc (.cells #[.int .i64 r.k, .int .i64 r.f, .string r.t] 23 (0, 0))).cell? ⟨wr.heap.size, 0, none⟩ = some (.int .i64 r.k) := blk_cell (blk_new wr _) 0
      have c1 : (wr.alloc (.cells #[.int .i64 r.k, .int .i64 r.f, .string r.t] 23 (0, 0))).cell? ⟨wr.heap.size, 1, none⟩ = some (.int .i64 r.f) := blk_cell (blk_new wr _) 1
      have c2' : (wr.alloc (.cells #[.int .i64 r.k, .int .i64 r.f, .string r.t] 23 (0, 0))).cell? ⟨wr.heap.size, 2, none⟩ = some (.string r.t) := blk_cell (blk_new wr _) 2
      generalize wr.alloc (.cells #[.int .i64 r.k, .int .i64 r.f, .string r.t] 23 (0, 0)) = w1 at *
      have HA := Lib.hid (ask7 r _ n g w1 HS1.out)
      obtain ⟨he1, he2⟩ := E.out
      rw [AskPost_eq, ← he1, ← he2] at HA
      clear he1 he2 g0 g1 g2
      by_cases hs : syF gr n g k = 0
      · rw [hs] at HA
        have HS := Lib.hid hs
        clear hs
        go_wp2_with (first | (go_at_call 36; refine HA.out.mono ?_; rintro e w2 ⟨rfl, hb2⟩; have HB2 := Lib.hid (HB1.out.trans (hb2.mono HB1.out.size)); clear hb2))
        go_roundw
        case rel => exact ⟨k + 1, by omega, by go_num, HB2.out, fun i hi => (by rcases Nat.lt_succ_iff_lt_or_eq.1 hi with h | h; exact HP.out i h; rw [h]; exact HS.out)⟩
        case measure => simp [intOf]; omega
      · have HS := Lib.hid hs
        have d1 : (syF gr n g k == 0) = false := by simpa using hs
        go_wp2_with (first | (go_at_call 36; refine HA.out.mono ?_; rintro e w2 ⟨rfl, hb2⟩; have HB2 := Lib.hid (HB1.out.trans (hb2.mono HB1.out.size)); clear hb2))
        go_ret3
        exact ⟨_, _, _, rfl, Or.inr ⟨k, hlt, rfl, rfl, rfl, HS.out, HP.out⟩, HB2.out⟩
    · obtain rfl : k = m := by omega
      go_wp2_with fail
      go_ret3
      exact ⟨_, _, _, rfl, Or.inl ⟨rfl, rfl, rfl, HP.out⟩, HB.out⟩

end Go.Proofs.YthigandmemifoaaGreatDoor

namespace Go.Proofs.YthigandmemifoaaGreatDoor
open Go.RowKit Go.PlainAid
set_option maxRecDepth 100000

/-- the pieces, if there are no more than so many -/
def splM (m : Int) (M : Nat) (s : ByteArray) : List ByteArray := if (spl m s).length ≤ M then spl m s else []
def splB (m : Int) (M : Nat) (s : ByteArray) : Bool := decide ((spl m s).length ≤ M)

set_option maxHeartbeats 1600000 in
theorem split23 (s : ByteArray) (m : Int) (M : Nat) (w : World) (hs : s.size ≤ 10000) (hM : 1 ≤ M ∧ M ≤ 100) :
    Calls Tryz.prog 37 #[.string s, .int .u8 m, .int .i64 M] w fun e w' => ∃ v, e = .returned (.tuple #[v, .bool (splB m M s)]) ∧ OwnS w.heap.size w v (splM m M s) w' := by
  have gb := get_bt s
  go_enter Tryz.func37, Tryz.ntmps37
  go_wp2_with fail
  go_loopw [8, 9, 14] (fun v st i wr => ∃ (a k : Nat) (P : List ByteArray), k ≤ s.size ∧ st = .int .i64 a ∧ i = .int .i64 k ∧ SpMid s m a k P ∧ P.length < M ∧ OwnS w.heap.size w v P wr) (fun _ _ i _ => s.size - (intOf i).toNat)
  case atStart => exact ⟨0, 0, [], Nat.zero_le _, rfl, rfl, spm_zero s m, by simp; omega, empS _ _ _ (Below.refl _ _) (Nat.le_refl _)⟩
  case round =>
    obtain ⟨a, k, P, hk, rfl, rfl, hmid, hPM, hown⟩ := hrel
    have HO := Lib.hid hown
    have HM := Lib.hid hmid
    have hak : a ≤ k := hmid.1
    clear hown hmid
    have eb : Hid (P.length ≤ 1000000000) := by show _ ≤ _; omega
    have c1 : (a : Int) ≤ (k : Int) := by omega
    have c2 : (k : Int) ≤ (s.size : Int) := by omega
    by_cases hlt : k < s.size
    · have c0 : (k : Int) < (s.size : Int) := by omega
      by_cases hm : bt s k = m
      · have q1 : (bt s k == m) = true := by simpa using hm
        have HM1 := Lib.hid (spm_mark HM.out hlt hm)
        go_wp2_with (first | (at_builtin; refine wpList_appS _ rfl (.tmp 22) (.tmp 27) rfl w.heap.size w _ _ rfl (HO.out.alloc _) ?b1 wr.heap.size 1 1 [s.extract a k] rfl rfl (by omega) (heap_alloc_new _ _) ?_))
        case b1 => exact eb.out
        intro v1 w1 h1 _ _
        obtain ⟨A, cap, hv, _⟩ := h1.ss
        have H1 := Lib.hid h1
        clear h1
        have hl : (P ++ [s.extract a k]).length = P.length + 1 := by simp
        rw [hl] at hv
        clear hl
        subst hv
        by_cases hq : P.length + 1 = M
        · have q2 : ((P.length : Int) + 1 == (M : Int)) = true := by simp; omega
          have q3 : (P.length : Int) + 1 = (M : Int) := by omega
          have hd : splB m M s = false ∧ splM m M s = [] := by
            have := spm_len HM1.out
            rw [List.length_append, List.length_singleton] at this
            exact ⟨decide_eq_false (by omega), if_neg (by omega)⟩
          go_wp2
          rw [hd.1, hd.2]
          go_ret2
          exact ⟨_, rfl, nilS _ _ _ H1.out.2.1 H1.out.2.2⟩
        · have q2 : ((P.length : Int) + 1 == (M : Int)) = false := by simp; omega
          have q3 : ¬ (P.length : Int) + 1 = (M : Int) := by omega
          go_wp2_with fail
          go_roundw
          case rel => exact ⟨k + 1, k + 1, P ++ [s.extract a k], by omega, by go_num, by go_num, HM1.out, by simp; omega, H1.out⟩
          case measure => simp [intOf]; omega
      · have q1 : (bt s k == m) = false := by simpa using hm
        have HM1 := Lib.hid (spm_skip HM.out hlt hm)
        go_wp2_with fail
        go_roundw
        case rel => exact ⟨a, k + 1, P, by omega, rfl, by go_num, HM1.out, hPM, HO.out⟩
        case measure => simp [intOf]; omega
    · obtain rfl : k = s.size := by omega
      have he := spm_end HM.out
      have hd : splB m M s = true ∧ splM m M s = P ++ [s.extract a s.size] := by
        have e2 : (spl m s).length ≤ M := by rw [he]; simp; omega
        exact ⟨decide_eq_true e2, by rw [splM, if_pos e2, he]⟩
      have HD := Lib.hid hd
      clear hd he
      go_wp2_with (first | (at_builtin; refine wpList_appS _ rfl (.tmp 36) (.tmp 40) rfl w.heap.size w _ _ rfl (HO.out.alloc _) ?b1 wr.heap.size 1 1 [s.extract a s.size] rfl rfl (by omega) (heap_alloc_new _ _) ?_))
      case b1 => exact eb.out
      intro v1 w1 h1 _ _
      have H1 := Lib.hid h1
      clear h1
      go_wp2
      rw [HD.out.1, HD.out.2]
      go_ret2
      exact ⟨_, rfl, H1.out⟩
end Go.Proofs.YthigandmemifoaaGreatDoor

namespace Go.Proofs.YthigandmemifoaaGreatDoor
open Go.RowKit Go.PlainAid
set_option maxRecDepth 100000

def rxB (m : Int) (M : Nat) (s : ByteArray) : Bool := splB m M s && (spl m s).all decB
def rxL (m : Int) (M : Nat) (s : ByteArray) : List ByteArray := if rxB m M s then (spl m s).map decS else []

set_option maxHeartbeats 1600000 in
theorem readTexts35 (s : ByteArray) (m : Int) (M : Nat) (w : World) (hs : s.size ≤ 10000) (hM : 1 ≤ M ∧ M ≤ 100) :
    Calls Tryz.prog 59 #[.string s, .int .u8 m, .int .i64 M] w fun e w' => ∃ v, e = .returned (.tuple #[v, .bool (rxB m M s)]) ∧ Ss w' v (rxL m M s) ∧ Below w.heap.size w w' := by
  by_cases hB : splB m M s = true
  · go_enter Tryz.func59, Tryz.ntmps59
    go_wp2_with fail
    refine (split23 _ _ _ _ hs hM).mono ?_
    rintro e w1 ⟨v1, rfl, h1⟩
    rw [hB]
    have hl : splM m M s = spl m s := by rw [splM, if_pos (of_decide_eq_true hB)]
    have hl1 : (spl m s).length ≤ 100 := by have := of_decide_eq_true hB; omega
    rw [hl] at h1
    obtain ⟨A, cap, rfl, _, _, hc⟩ := h1.ss
    have H1 := Lib.hid h1
    have HC := Lib.hid hc
    clear h1 hc hl
    have hsz := H1.out.2.2
    go_wp2_with (at_make; refine wpList_mkS _ rfl _ _ rfl w1.heap.size w1 (Below.refl _ _) (Nat.le_refl _) _ (spl m s).length rfl rfl rfl (by omega) ?_)
    intro v2 w2 h2 _
    have H2 := Lib.hid h2
    clear h2
    go_wp2_with fail
    go_loopw [10, 29] (fun v i wr => ∃ (k : Nat), k ≤ (spl m s).length ∧ i = .int .i64 k ∧ ((spl m s).take k).all decB = true ∧ OwnS w1.heap.size w1 v (((spl m s).take k).map decS) wr) (fun _ i _ => (spl m s).length - (intOf i).toNat)
    case atStart => exact ⟨0, Nat.zero_le _, rfl, by simp, by simpa using H2.out⟩
    case round =>
      obtain ⟨k, hk, rfl, hall, hown⟩ := hrel
      have HO := Lib.hid hown
      have HA := Lib.hid hall
      clear hown hall
      by_cases hlt : k < (spl m s).length
      · obtain ⟨b, o, rfl, hcell⟩ := HC.out k hlt
        have hcell' : wr.cell? ⟨b, o + k, none⟩ = some (.string ((spl m s).getD k default)) := by rw [HO.out.2.1.cell (World.block_lt_of_cell? _ _ hcell)]; exact hcell
        have hmem := getD_mem (spl m s) k hlt
        have hsz1 := spl_size m s _ hmem
        have c0 : (k : Int) < ((spl m s).length : Int) := by omega
        have HN := Lib.hid (take_next decS (spl m s) k hlt)
        have HL := Lib.hid (all_next decB (spl m s) k hlt)
        have HQ := Lib.hid (all_not decB (spl m s) k hlt)
        have eb : Hid ((((spl m s).take k).map decS).length ≤ 1000000000) := by show _ ≤ _; simp; omega
        clear hmem hcell
        generalize (spl m s).getD k default = p at *
        by_cases hp : decB p = true
        · go_wp2_with (first | (go_at_call 77; refine (decodeP _ _ (by omega)).mono ?_; rintro e w3 ⟨rfl, h3⟩; rw [hp]; have H3 := Lib.hid h3; clear h3) | (at_builtin; refine wpList_appS _ rfl (.tmp 40) (.tmp 42) rfl w1.heap.size w1 _ _ rfl ((HO.out.call H3.out).alloc _) ?b1 w3.heap.size 1 1 [decS p] rfl rfl (by omega) (heap_alloc_new _ _) ?_))
          case b1 => exact eb.out
          intro v4 w4 h4 _ _
          have H4 := Lib.hid h4
          clear h4
          go_wp2_with fail
          go_roundw
          case rel => exact ⟨k + 1, by omega, by go_num, by rw [HL.out, HA.out, hp]; rfl, by rw [HN.out, List.map_take]; exact H4.out⟩
          case measure => simp [intOf]; omega
        · have hp : decB p = false := by simpa using hp
          have hd : rxB m M s = false ∧ rxL m M s = [] := by
            have : rxB m M s = false := by rw [rxB, HQ.out hp]; simp
            exact ⟨this, by rw [rxL, this]; rfl⟩
          have HD := Lib.hid hd
          clear hd
          go_wp2_with (first | (go_at_call 77; refine (decodeP _ _ (by omega)).mono ?_; rintro e w3 ⟨rfl, h3⟩; rw [hp]; have H3 := Lib.hid h3; clear h3))
          rw [HD.out.1, HD.out.2]
          go_ret2
          exact ⟨_, rfl, ss_nil _, (H1.out.2.1.trans (HO.out.2.1.mono hsz)).trans (H3.out.mono (by have := HO.out.2.2; omega))⟩
      · obtain rfl : k = (spl m s).length := by omega
        have ha : (spl m s).all decB = true := by simpa using HA.out
        have hd : rxB m M s = true ∧ rxL m M s = (spl m s).map decS := by
          have : rxB m M s = true := by rw [rxB, hB, ha]; rfl
          exact ⟨this, by rw [rxL, if_pos this]⟩
        have HD := Lib.hid hd
        clear hd ha
        go_wp2
        rw [HD.out.1, HD.out.2]
        go_ret2
        refine ⟨_, rfl, by simpa using HO.out.ss, H1.out.2.1.trans (HO.out.2.1.mono hsz)⟩
  · have hB : splB m M s = false := by simpa using hB
    have hd : rxB m M s = false ∧ rxL m M s = [] := by
      have : rxB m M s = false := by rw [rxB, hB]; rfl
      exact ⟨this, by rw [rxL, this]; rfl⟩
    have HD := Lib.hid hd
    clear hd
    go_enter Tryz.func59, Tryz.ntmps59
    go_wp2_with fail
    refine (split23 _ _ _ _ hs hM).mono ?_
    rintro e w1 ⟨v1, rfl, h1⟩
    rw [hB]
    have H1 := Lib.hid h1
    clear h1
    go_wp2
    rw [HD.out.1, HD.out.2]
    go_ret2
    exact ⟨_, rfl, ss_nil _, H1.out.2.1⟩

def upB (s : ByteArray) : Bool := decide (s = ⟨#[47]⟩) || rxB 47 8 (s.extract 1 s.size)
def rpL (s : ByteArray) : List ByteArray := if s = ⟨#[47]⟩ then [] else rxL 47 8 (s.extract 1 s.size)

set_option maxHeartbeats 1600000 in
theorem readPath24 (s : ByteArray) (w : World) (hs : s.size ≤ 10000) (h1 : 1 ≤ s.size) :
    Calls Tryz.prog 38 #[.string s] w fun e w' => ∃ v, e = .returned (.tuple #[v, .bool (upB s)]) ∧ Ss w' v (rpL s) ∧ Below w.heap.size w w' := by
  have c1 : (1 : Int) ≤ (s.size : Int) := by omega
  have hbe : (s.toList == [47]) = decide (s = ⟨#[47]⟩) := by
    have := bs_eq s ⟨#[47]⟩
    rw [Lib.toList_data ⟨#[47]⟩] at this
    exact this
  by_cases hq : s = ⟨#[47]⟩
  · have hd : upB s = true ∧ rpL s = [] := ⟨by rw [upB, decide_eq_true hq]; rfl, by rw [rpL, if_pos hq]⟩
    have HD := Lib.hid hd
    clear hd
    rw [decide_eq_true hq] at hbe
    go_enter Tryz.func38, Tryz.ntmps38
    go_wp2
    rw [HD.out.1, HD.out.2]
    go_ret2
    exact ⟨_, rfl, ss_nil _, Below.refl _ _⟩
  · have hd : upB s = rxB 47 8 (s.extract 1 s.size) ∧ rpL s = rxL 47 8 (s.extract 1 s.size) := ⟨by rw [upB, decide_eq_false hq]; rfl, by rw [rpL, if_neg hq]⟩
    have HD := Lib.hid hd
    clear hd
    rw [decide_eq_false hq] at hbe
    have hz := tail_size s 1
    go_enter Tryz.func38, Tryz.ntmps38
    go_wp2_with fail
    refine (readTexts35 _ _ 8 _ (by omega) (by omega)).mono ?_
    rintro e w1 ⟨v1, rfl, h1⟩
    have H1 := Lib.hid h1
    clear h1
    go_wp2
    rw [HD.out.1, HD.out.2]
    go_ret2
    exact ⟨_, rfl, H1.out⟩

theorem rtL_len (m : Int) (M : Nat) (s : ByteArray) (h : rxB m M s = true) : (rxL m M s).length = (spl m s).length ∧ (spl m s).length ≤ M := by
  rw [rxL, if_pos h, List.length_map]
  rw [rxB, Bool.and_eq_true] at h
  exact ⟨rfl, of_decide_eq_true h.1⟩
def prV (s : ByteArray) : Pr := ((rxL 61 2 s).getD 0 ⟨#[]⟩, (rxL 61 2 s).getD 1 ⟨#[]⟩)
theorem below_two {w w1 : World} {o : Obj} (h : Below (w.alloc o).heap.size (w.alloc o) w1) : Below w.heap.size w w1 ∧ w.heap.size < w1.heap.size ∧ ∀ x y, Below w.heap.size w ((w1.setCell ⟨w.heap.size, 0, none⟩ x).setCell ⟨w.heap.size, 1, none⟩ y) := by
  have h0 : Below w.heap.size w w1 := ((Below.refl _ w).alloc (Nat.le_refl _) o).trans (h.mono (by simp))
  have := h.size
  exact ⟨h0, by simp at this; omega, fun x y => (h0.setCell (Nat.le_refl _) _).setCell (Nat.le_refl _) _⟩

set_option maxHeartbeats 1600000 in
theorem readPair36 (s : ByteArray) (w : World) (hs : s.size ≤ 10000) :
    Calls Tryz.prog 60 #[.string s] w fun e w' => e = .returned (.tuple #[.agg #[.string (prV s).1, .string (prV s).2], .bool (rxB 61 2 s)]) ∧ Below w.heap.size w w' := by
  by_cases hB : rxB 61 2 s = true
  · obtain ⟨l1, l2⟩ := rtL_len 61 2 s hB
    have l3 := spl_ne 61 s
    by_cases h1 : (rxL 61 2 s).length = 1
    · obtain ⟨x, hx⟩ : ∃ x, rxL 61 2 s = [x] := by
        match h : rxL 61 2 s, h1 with
        | [x], _ => exact ⟨x, rfl⟩
      have hd : (prV s).1 = x ∧ (prV s).2 = ⟨#[]⟩ := by simp [prV, hx]
      have HD := Lib.hid hd
      clear hd
      go_enter Tryz.func60, Tryz.ntmps60
      go_wp2_with fail
      refine (readTexts35 _ _ 2 _ (by omega) (by omega)).mono ?_
      rintro e w1 ⟨v1, rfl, h2, h3⟩
      rw [hB]
      rw [hx] at h2
      obtain ⟨A, cap, rfl, _, _, hc⟩ := h2
      obtain ⟨b, o, rfl, hc0⟩ := hc 0 (by simp)
      simp at hc0
      clear hc
      have H3 := Lib.hid h3
      clear h3
      have HK := Lib.hid (blk_call (blk_new _ _) H3.out)
      obtain ⟨c0, c1, f0, f1⟩ := blk2 HK.out
      go_wp2
      rw [HD.out.1, HD.out.2]
      refine bodyPost_ret (v := .tuple #[.agg #[.string x, .string ⟨#[]⟩], .bool true]) ?_ rfl ⟨by rw [hB], ?_⟩
      · rw [results_cell_tmp rfl]
        go_simp
      · exact (below_two H3.out).2.2 _ _
    · obtain ⟨x, y, hx⟩ : ∃ x y, rxL 61 2 s = [x, y] := by
        match h : rxL 61 2 s, (show (rxL 61 2 s).length = 2 by omega) with
        | [x, y], _ => exact ⟨x, y, rfl⟩
      have hd : (prV s).1 = x ∧ (prV s).2 = y := by simp [prV, hx]
      have HD := Lib.hid hd
      clear hd
      go_enter Tryz.func60, Tryz.ntmps60
      go_wp2_with fail
      refine (readTexts35 _ _ 2 _ (by omega) (by omega)).mono ?_
      rintro e w1 ⟨v1, rfl, h2, h3⟩
      rw [hB]
      rw [hx] at h2
      obtain ⟨A, cap, rfl, _, _, hc⟩ := h2
      obtain ⟨b, o, rfl, hc0⟩ := hc 0 (by simp)
      obtain ⟨b', o', hbo, hc1⟩ := hc 1 (by simp)
      cases hbo
      simp at hc0 hc1
      clear hc
      have H3 := Lib.hid h3
      clear h3
      have HK := Lib.hid (blk_call (blk_new _ _) H3.out)
      obtain ⟨c0, c1, f0, f1⟩ := blk2 HK.out
      go_wp2_with fail
      go_region
      go_wp2
      rw [HD.out.1, HD.out.2]
      refine bodyPost_ret (v := .tuple #[.agg #[.string x, .string y], .bool true]) ?_ rfl ⟨by rw [hB], ?_⟩
      · rw [results_cell_tmp rfl]
        go_simp
      · exact ((below_two H3.out).2.2 _ _).drew
  · have hB : rxB 61 2 s = false := by simpa using hB
    have hd : (prV s).1 = ⟨#[]⟩ ∧ (prV s).2 = ⟨#[]⟩ := by simp [prV, rxL, hB]
    have HD := Lib.hid hd
    clear hd
    go_enter Tryz.func60, Tryz.ntmps60
    go_wp2_with fail
    refine (readTexts35 _ _ 2 _ (by omega) (by omega)).mono ?_
    rintro e w1 ⟨v1, rfl, h2, h3⟩
    rw [hB]
    have H2 := Lib.hid h2
    have H3 := Lib.hid h3
    clear h2 h3
    have HK := Lib.hid (blk_call (blk_new _ _) H3.out)
    obtain ⟨c0, c1, f0, f1⟩ := blk2 HK.out
    go_wp2
    rw [HD.out.1, HD.out.2]
    refine bodyPost_ret (v := .tuple #[.agg #[.string ⟨#[]⟩, .string ⟨#[]⟩], .bool false]) ?_ rfl ⟨by rw [hB], ?_⟩
    · rw [results_cell_tmp rfl]
      go_simp
    · exact (below_two H3.out).2.2 _ _

end Go.Proofs.YthigandmemifoaaGreatDoor

namespace Go.Proofs.YthigandmemifoaaGreatDoor
open Go.RowKit Go.PlainAid
set_option maxRecDepth 100000

def rqB (l : List ByteArray) : Bool := decide (l = []) || (splB 38 8 (l.getD 0 default) && (spl 38 (l.getD 0 default)).all (rxB 61 2))
def rqL (l : List ByteArray) : List Pr := if l = [] then [] else if rqB l then (spl 38 (l.getD 0 default)).map prV else []

theorem OwnP.cells_at {w : World} {b : Nat} {x y : ByteArray} {t : TypeId} (h : w.heap[b]? = some (.cells #[.string x, .string y] t (0, 0))) : w.heap[b]? = some (.cells ([(x, y)].flatMap prC).toArray t (0, 0)) := h

set_option maxHeartbeats 1600000 in
theorem readQuery25 (v : Value) (l : List ByteArray) (w : World) (hv : Ss w v l) (hs : ∀ p ∈ l, p.size ≤ 10000) :
    Calls Tryz.prog 39 #[v] w fun e w' => ∃ v', e = .returned (.tuple #[v', .bool (rqB l)]) ∧ Ps w' v' (rqL l) ∧ Below w.heap.size w w' := by
  obtain ⟨A, cap, rfl, _, _, hc⟩ := hv
  by_cases hl : l = []
  · subst hl
    have hd : rqB [] = true ∧ rqL [] = [] := ⟨rfl, rfl⟩
    have HD := Lib.hid hd
    clear hd
    go_enter Tryz.func39, Tryz.ntmps39
    go_wp2
    rw [HD.out.1, HD.out.2]
    go_ret2
    exact ⟨_, rfl, ps_nil _, Below.refl _ _⟩
  · have hn : 0 < l.length := List.length_pos_iff.2 hl
    obtain ⟨b, o, rfl, hc0⟩ := hc 0 hn
    rw [Nat.add_zero] at hc0
    clear hc
    have hq1 : (l.length : Int) ≠ 0 := by omega
    have hq2 : ((l.length : Int) == 0) = false := by simp; omega
    have hq3 : (0 : Int) < (l.length : Int) := by omega
    have hz := hs _ (getD_mem l 0 hn)
    have e1 : rqB l = (splB 38 8 (l.getD 0 default) && (spl 38 (l.getD 0 default)).all (rxB 61 2)) := by rw [rqB, decide_eq_false hl]; rfl
    have e2 : rqL l = if rqB l then (spl 38 (l.getD 0 default)).map prV else [] := by rw [rqL, if_neg hl]
    have E1 := Lib.hid e1
    have E2 := Lib.hid e2
    clear e1 e2 hs hl hn
    generalize l.getD 0 default = q at *
    by_cases hB : splB 38 8 q = true
    · go_enter Tryz.func39, Tryz.ntmps39
      go_wp2_with fail
      refine (split23 _ _ 8 _ hz (by omega)).mono ?_
      rintro e w1 ⟨v1, rfl, h1⟩
      rw [hB]
      have hl : splM 38 8 q = spl 38 q := by rw [splM, if_pos (of_decide_eq_true hB)]
      have hl1 : (spl 38 q).length ≤ 100 := by have := of_decide_eq_true hB; omega
      rw [hl] at h1
      obtain ⟨A, cap1, rfl, _, _, hc⟩ := h1.ss
      have H1 := Lib.hid h1
      have HC := Lib.hid hc
      clear h1 hc hl
      have hsz := H1.out.2.2
      go_wp2_with (at_make; refine wpList_mkP _ rfl _ _ rfl w1.heap.size w1 (Below.refl _ _) (Nat.le_refl _) _ (spl 38 q).length rfl rfl rfl (by omega) ?_)
      intro v2 w2 h2 _
      have H2 := Lib.hid h2
      clear h2
      go_wp2_with fail
      go_loopw [6, 28] (fun v i wr => ∃ (k : Nat), k ≤ (spl 38 q).length ∧ i = .int .i64 k ∧ ((spl 38 q).take k).all (rxB 61 2) = true ∧ OwnP w1.heap.size w1 v (((spl 38 q).take k).map prV) wr) (fun _ i _ => (spl 38 q).length - (intOf i).toNat)
      case atStart => exact ⟨0, Nat.zero_le _, rfl, by simp, by simpa using H2.out⟩
      case round =>
        obtain ⟨k, hk, rfl, hall, hown⟩ := hrel
        have HO := Lib.hid hown
        have HA := Lib.hid hall
        clear hown hall
        by_cases hlt : k < (spl 38 q).length
        · obtain ⟨b', o', rfl, hcell⟩ := HC.out k hlt
          have hcell' : wr.cell? ⟨b', o' + k, none⟩ = some (.string ((spl 38 q).getD k default)) := by rw [HO.out.2.1.cell (World.block_lt_of_cell? _ _ hcell)]; exact hcell
          have hmem := getD_mem (spl 38 q) k hlt
          have hsz1 := spl_size 38 q _ hmem
          have c0 : (k : Int) < ((spl 38 q).length : Int) := by omega
          have HN := Lib.hid (take_next prV (spl 38 q) k hlt)
          have HL := Lib.hid (all_next (rxB 61 2) (spl 38 q) k hlt)
          have HQ := Lib.hid (all_not (rxB 61 2) (spl 38 q) k hlt)
          have eb : Hid ((((spl 38 q).take k).map prV).length ≤ 1000000000) := by show _ ≤ _; simp; omega
          clear hmem hcell
          generalize (spl 38 q).getD k default = p at *
          by_cases hp : rxB 61 2 p = true
          · go_wp2_with (first | (go_at_call 60; refine (readPair36 _ _ (by omega)).mono ?_; rintro e w3 ⟨rfl, h3⟩; rw [hp]; have H3 := Lib.hid h3; clear h3) | (at_builtin; refine wpList_appP _ rfl (.tmp 39) (.tmp 41) rfl w1.heap.size w1 _ (((spl 38 q).take k).map prV) rfl (((HO.out.call H3.out).alloc _).alloc _) ?b1 (w3.heap.size + 1) 1 1 [prV p] rfl rfl (by omega) (blk_new1 _ _ _) ?_))
            case b1 => exact eb.out
            intro v4 w4 h4 _ _
            have H4 := Lib.hid h4
            clear h4
            go_wp2_with fail
            go_roundw
            case rel => exact ⟨k + 1, by omega, by go_num, by rw [HL.out, HA.out, hp]; rfl, by rw [HN.out]; simpa using H4.out⟩
            case measure => simp [intOf]; omega
          · have hp : rxB 61 2 p = false := by simpa using hp
            have hd : rqB l = false ∧ rqL l = [] := by
              have : rqB l = false := by rw [E1.out, HQ.out hp]; simp
              exact ⟨this, by rw [E2.out, this]; rfl⟩
            have HD := Lib.hid hd
            clear hd
            go_wp2_with (first | (go_at_call 60; refine (readPair36 _ _ (by omega)).mono ?_; rintro e w3 ⟨rfl, h3⟩; rw [hp]; have H3 := Lib.hid h3; clear h3))
            rw [HD.out.1, HD.out.2]
            go_ret2
            exact ⟨_, rfl, ps_nil _, ((H1.out.2.1.trans (HO.out.2.1.mono hsz)).trans (H3.out.mono (by have := HO.out.2.2; omega))).alloc (by have := HO.out.2.2; have := H3.out.size; omega) _⟩
        · obtain rfl : k = (spl 38 q).length := by omega
          have ha : (spl 38 q).all (rxB 61 2) = true := by simpa using HA.out
          have hd : rqB l = true ∧ rqL l = (spl 38 q).map prV := by
            have : rqB l = true := by rw [E1.out, hB, ha]; rfl
            exact ⟨this, by rw [E2.out, if_pos this]⟩
          have HD := Lib.hid hd
          clear hd ha
          go_wp2
          rw [HD.out.1, HD.out.2]
          go_ret2
          refine ⟨_, rfl, by simpa using HO.out.ps, H1.out.2.1.trans (HO.out.2.1.mono hsz)⟩
    · have hB : splB 38 8 q = false := by simpa using hB
      have hd : rqB l = false ∧ rqL l = [] := by
        have : rqB l = false := by rw [E1.out, hB]; rfl
        exact ⟨this, by rw [E2.out, this]; rfl⟩
      have HD := Lib.hid hd
      clear hd
      go_enter Tryz.func39, Tryz.ntmps39
      go_wp2_with fail
      refine (split23 _ _ 8 _ hz (by omega)).mono ?_
      rintro e w1 ⟨v1, rfl, h1⟩
      rw [hB]
      have H1 := Lib.hid h1
      clear h1
      go_wp2
      rw [HD.out.1, HD.out.2]
      go_ret2
      exact ⟨_, rfl, ps_nil _, H1.out.2.1⟩
end Go.Proofs.YthigandmemifoaaGreatDoor
