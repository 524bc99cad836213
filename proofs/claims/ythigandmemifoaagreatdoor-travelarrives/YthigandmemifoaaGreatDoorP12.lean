/-
  Put together: RecQ, Enc, Same, Shelf.
-/
import Derived.Test.YthigandmemifoaaGreatDoorP11
import Derived.Test.YthigandmemifoaaGreatDoorP02
import Derived.Deep.RegionHeld3
import Derived.Deep.RegionLaw
import Derived.Test.YthigandmemifoaaGreatDoorP05
import Derived.Shelf.Strings.OnBuilder
import Derived.Test.YthigandmemifoaaGreatDoorProg
namespace Go.Proofs.YthigandmemifoaaGreatDoor
open Go.RowKit Go.PlainAid
set_option maxRecDepth 100000

/-- parents stand ahead -/
def ParOk (l : List Rc) : Prop := ∀ i, i < l.length → -1 ≤ (l.getD i default).p ∧ (l.getD i default).p < (i : Int)
theorem up_fuel {l : List Rc} (hp : ParOk l) : ∀ (f f' : Nat) (e e' : Int) (i : Nat), i < l.length → (i : Int) < e → e ≤ f → (i : Int) < e' → e' ≤ f' → upL l f e i = upL l f' e' i := by
  intro f
  induction f with
  | zero => intro f' e e' i _ h1 h2; omega
  | succ f ih =>
    intro f' e e' i hi h1 h2 h3 h4
    cases f' with
    | zero => omega
    | succ f' =>
      rw [upL, upL, if_pos ⟨by omega, h1⟩, if_pos ⟨by omega, h3⟩]
      congr 1
      have e9 : (i : Int).toNat = i := by omega
      rw [e9]
      obtain ⟨q1, q2⟩ := hp i hi
      by_cases hq : 0 ≤ (l.getD i default).p
      · obtain ⟨q, hq'⟩ : ∃ q : Nat, (l.getD i default).p = (q : Int) := ⟨(l.getD i default).p.toNat, by omega⟩
        rw [hq']
        exact ih f' _ _ q (by omega) (by omega) (by omega) (by omega) (by omega)
      · rw [up_stop (by omega), up_stop (by omega)]
/-- a chain is its parent's, and oneself -/
theorem ch_step {l : List Rc} (hp : ParOk l) (i : Nat) (hi : i < l.length) : chL l i = (if 0 ≤ (l.getD i default).p then chL l (l.getD i default).p else []) ++ [i] := by
  obtain ⟨f', hf, hjf, hs⟩ := up_step (l := l) (f := l.length) (e := l.length) (i := (i : Nat)) (Int.le_refl _) (by omega) (by omega)
  have e9 : (i : Int).toNat = i := by omega
  rw [e9] at hs
  rw [chL, hs, List.reverse_cons]
  congr 1
  obtain ⟨q1, q2⟩ := hp i hi
  split
  · rename_i hq
    obtain ⟨q, hq'⟩ : ∃ q : Nat, (l.getD i default).p = (q : Int) := ⟨(l.getD i default).p.toNat, by omega⟩
    rw [hq', chL]
    congr 1
    exact up_fuel hp _ _ _ _ q (by omega) (by omega) (by omega) (by omega) (by omega)
  · rename_i hq
    rw [up_stop (by omega)]
    rfl
theorem fu_step {l : List Rc} (hp : ParOk l) (i : Nat) (hi : i < l.length) : fuL l i = (if 0 ≤ (l.getD i default).p then fuL l (l.getD i default).p else []) ++ (l.getD i default).l := by
  rw [fuL, ch_step hp i hi, sgsOf, List.flatMap_append]
  congr 1
  · split <;> rfl
  · simp
/-- each is the parent of the next -/
theorem ch_links {l : List Rc} (hp : ParOk l) : ∀ (m i : Nat), i < m → i < l.length → 1 ≤ (chL l i).length ∧ (chL l i).getD ((chL l i).length - 1) 0 = i ∧ ∀ n, n < (chL l i).length → (l.getD ((chL l i).getD n 0) default).p = if n = 0 then -1 else (((chL l i).getD (n - 1) 0 : Nat) : Int) := by
  intro m
  induction m with
  | zero => intro i h; omega
  | succ m ih =>
    intro i him hi
    obtain ⟨q1, q2⟩ := hp i hi
    have hs := ch_step hp i hi
    by_cases hq : 0 ≤ (l.getD i default).p
    · obtain ⟨q, hq'⟩ : ∃ q : Nat, (l.getD i default).p = (q : Int) := ⟨(l.getD i default).p.toNat, by omega⟩
      rw [if_pos hq, hq'] at hs
      obtain ⟨a1, a2, a3⟩ := ih q (by omega) (by omega)
      generalize chL l (q : Int) = c at *
      rw [hs]
      refine ⟨by simp, ?_, fun n hn => ?_⟩
      · rw [List.length_append, List.length_singleton, Nat.add_sub_cancel]
        exact getD_end c i 0 _ rfl
      · by_cases hnc : n < c.length
        · rw [getD_app c i 0 n hnc, a3 n hnc]
          by_cases h0 : n = 0
          · rw [if_pos h0, if_pos h0]
          · rw [if_neg h0, if_neg h0, getD_app c i 0 (n - 1) (by omega)]
        · have hnc : n = c.length := by simp at hn; omega
          rw [getD_end c i 0 n hnc, hq', if_neg (by omega), getD_app c i 0 (n - 1) (by omega), hnc, a2]
    · rw [if_neg hq, List.nil_append] at hs
      rw [hs]
      refine ⟨by simp, rfl, fun n hn => ?_⟩
      have : n = 0 := by simp at hn; omega
      subst this
      rw [if_pos rfl]
      show (l.getD i default).p = -1
      omega

/-! names -/
def nmT (i : Nat) : ByteArray := if i = 0 then homeT else (⟨#[114]⟩ : ByteArray) ++ st [96 + (i : Int)]
def pnT (i : Nat) : ByteArray := (⟨#[112]⟩ : ByteArray) ++ st [96 + (i : Int)]
theorem nmT_tx : ∀ i : Fin 8, txB (nmT i.val) = true := by decide +kernel
theorem nmT_inj : ∀ i j : Fin 8, nmT i.val = nmT j.val → i = j := by decide +kernel
theorem pnT_tx : ∀ i : Fin 8, 1 ≤ i.val → txB (pnT i.val) = true := by decide +kernel
theorem pnT_inj : ∀ i j : Fin 8, pnT i.val = pnT j.val → i = j := by decide +kernel
theorem ks_tx : ∀ s ∈ ksT, txB s = true := by decide +kernel
variable {l : List Rc} {ds : List Nat}
theorem RecOk.name (h : RecOk l ds) (i : Nat) (hi : i < l.length) : (l.getD i default).n = nmT i := by
  by_cases h0 : i = 0
  · subst h0; exact h.r0.1
  · rw [(h.step i (by omega) hi).1, nmT, if_neg h0]
theorem RecOk.inj (h : RecOk l ds) {i j : Nat} (hi : i < l.length) (hj : j < l.length) (e : (l.getD i default).n = (l.getD j default).n) : i = j := by
  have h8 := h.len8
  rw [h.name i hi, h.name j hj] at e
  have := nmT_inj ⟨i, by omega⟩ ⟨j, by omega⟩ e
  exact congrArg Fin.val this
theorem RecOk.par (h : RecOk l ds) : ParOk l := by
  intro i hi
  by_cases h0 : i = 0
  · subst h0; have := h.r0.2.1; omega
  · rcases (h.step i (by omega) hi).2.1 with ⟨h1, _⟩ | ⟨q, h1, h2, _⟩ <;> omega
theorem RecOk.fit (h : RecOk l ds) : Fit l := by
  refine ⟨by have := h.len8; omega, fun r hr => ?_⟩
  obtain ⟨i, hi, rfl⟩ := List.getElem_of_mem hr
  have e : l.getD i default = l[i] := by simp [List.getD, hi]
  rw [← e]
  rcases h.seg1 i hi with h1 | ⟨g, h1⟩ <;> rw [h1] <;> simp
theorem RecOk.named (h : RecOk l ds) (i : Nat) (hi : i < l.length) : nmI l (l.getD i default).n = i :=
  nm_at hi (fun j hj e => by have := h.inj (i := j) (j := i) (by omega) hi e; omega) rfl
theorem RecOk.fresh (h : RecOk l ds) (i : Nat) (hi : i < l.length) : nmI (l.take i) (l.getD i default).n = -1 := by
  refine nm_none fun j hj e => ?_
  have hj : j < i := by rw [List.length_take] at hj; omega
  have e2 : (l.take i).getD j default = l.getD j default := by simp only [List.getD]; rw [List.getElem?_take_of_lt hj]
  rw [e2] at e
  have := h.inj (i := j) (j := i) (by omega) hi e
  omega

/-- one segment more -/
theorem rg_snoc {A : List Sg} {g : Sg} (h : rgB A = true) (hk : ∀ o ∈ A, o.1 = 0 ∨ o.1 = 1) (h8 : A.length < 8) (ht : txB g.2 = true) (hg : g.1 = 0 ∨ g.1 = 1 ∨ g.1 = 2 ∨ g.1 = 3) (hw : twB g A = false) : rgB (A ++ [g]) = true := by
  rw [rgB, Bool.and_eq_true] at h
  have hall := List.all_eq_true.1 h.2
  rw [rgB, Bool.and_eq_true]
  refine ⟨decide_eq_true (by simp; omega), ?_⟩
  rw [List.all_eq_true]
  intro j hj
  have hj : j < A.length + 1 := by simpa using hj
  by_cases hjl : j < A.length
  · have h1 := hall j (by simpa using hjl)
    have e1 : (A ++ [g]).getD j default = A.getD j default := getD_app A g default j hjl
    have e2 : (A ++ [g]).take j = A.take j := by rw [List.take_append_of_le_length (by omega)]
    rw [okB, e1, e2]
    rw [okB, Bool.and_eq_true] at h1
    rw [h1.2, Bool.and_true]
    rcases hk _ (getD_mem A j hjl) with e | e <;> rw [e] <;> rfl
  · obtain rfl : j = A.length := by omega
    have e1 : (A ++ [g]).getD A.length default = g := getD_end A g default _ rfl
    rw [okB, e1, List.take_left, ht, hw]
    simp only [List.length_append, List.length_singleton, decide_true, Bool.not_false, Bool.and_true]
    rcases hg with e | e | e | e <;> rw [e] <;> rfl
/-- what a full pattern of such records is -/
structure FuOk (l : List Rc) (ds : List Nat) (i : Nat) : Prop where
  len : (fuL l i).length ≤ ds.getD i 0
  rg : rgB (fuL l i) = true
  nm : ∀ o ∈ fuL l i, o.1 ≠ 0 → ∃ j, j ≤ i ∧ o.2 = pnT j
  low : lastB (l.getD i default).l = false → ∀ o ∈ fuL l i, o.1 = 0 ∨ o.1 = 1
theorem seg_low {i : Nat} {g : Sg} (h : SegR i g) (hl : lastB [g] = false) : g.1 = 0 ∨ g.1 = 1 := by
  have : ¬ 2 ≤ g.1 := by simpa [lastB] using hl
  rcases h with ⟨h, _⟩ | ⟨h, _⟩ <;> omega
theorem RecOk.fuok (h : RecOk l ds) : ∀ (m i : Nat), i < m → i < l.length → FuOk l ds i := by
  intro m
  induction m with
  | zero => intro i hi; omega
  | succ m ih =>
    intro i him hi
    have h8 := h.len8
    have hs := fu_step h.par i hi
    by_cases h0 : i = 0
    · subst h0
      have e : fuL l ((0 : Nat) : Int) = [] := by
        rw [hs, h.r0.2.1, h.r0.2.2]
        rfl
      refine ⟨by rw [e]; simp, by rw [e]; rfl, fun o ho => ?_, fun _ o ho => ?_⟩
      · rw [e] at ho; simp at ho
      · rw [e] at ho; simp at ho
    · obtain ⟨h1, h2, g, hg, hsg⟩ := h.step i (by omega) hi
      have htx : txB g.2 = true := by
        rcases hsg with ⟨_, hk⟩ | ⟨_, hk⟩
        · exact ks_tx _ hk
        · rw [hk]; exact pnT_tx ⟨i, by omega⟩ (show 1 ≤ i by omega)
      have hkind : g.1 = 0 ∨ g.1 = 1 ∨ g.1 = 2 ∨ g.1 = 3 := by
        rcases hsg with ⟨hk, _⟩ | ⟨hk, _⟩
        · exact Or.inl hk
        · exact Or.inr hk
      have hname : g.1 ≠ 0 → g.2 = pnT i := by
        intro hn
        rcases hsg with ⟨hk, _⟩ | ⟨_, hk⟩
        · exact absurd hk hn
        · exact hk
      rw [hg] at hs
      have main : ∀ A : List Sg, fuL l i = A ++ [g] → A.length + 1 ≤ ds.getD i 0 → A.length ≤ 4 → rgB A = true → (∀ o ∈ A, o.1 ≠ 0 → ∃ j, j < i ∧ o.2 = pnT j) → (∀ o ∈ A, o.1 = 0 ∨ o.1 = 1) → FuOk l ds i := by
        intro A hA hlen h4 hrg hnm hlow
        have htw : twB g A = false := by
          rw [twB]
          split
          · rfl
          · rename_i hn
            rw [List.any_eq_false]
            intro o ho
            simp only [twP, decide_eq_true_eq, not_and]
            intro ho1 e
            obtain ⟨j, hj, hoj⟩ := hnm o ho ho1
            rw [hname hn, hoj] at e
            have := congrArg Fin.val (pnT_inj ⟨j, by omega⟩ ⟨i, by omega⟩ e)
            simp at this
            omega
        refine ⟨by rw [hA]; simpa using hlen, by rw [hA]; exact rg_snoc hrg hlow (by omega) htx hkind htw, fun o ho hn => ?_, fun hlb o ho => ?_⟩
        · rw [hA, List.mem_append] at ho
          rcases ho with ho | ho
          · obtain ⟨j, hj, e⟩ := hnm o ho hn
            exact ⟨j, by omega, e⟩
          · rw [List.mem_singleton] at ho
            subst ho
            exact ⟨i, Nat.le_refl _, hname hn⟩
        · rw [hA, List.mem_append] at ho
          rcases ho with ho | ho
          · exact hlow o ho
          · rw [List.mem_singleton] at ho
            subst ho
            rw [hg] at hlb
            exact seg_low hsg hlb
      rcases h2 with ⟨hp, hd⟩ | ⟨q, hp, hqi, hq3, hqb, hd⟩
      · rw [hp, if_neg (by omega), List.nil_append] at hs
        exact main [] (by rw [hs]; rfl) (by rw [hd]; simp) (by simp) (by rfl) (fun o ho => by simp at ho) (fun o ho => by simp at ho)
      · rw [hp, if_pos (by omega)] at hs
        have hq := ih q (by omega) (by omega)
        have hql := hq.len
        exact main (fuL l (q : Nat)) hs (by rw [hd]; omega) (by omega) hq.rg (fun o ho hn => by obtain ⟨j, hj, e⟩ := hq.nm o ho hn; exact ⟨j, by omega, e⟩) (hq.low hqb)
theorem RecOk.right (h : RecOk l ds) : rtB l = true := by
  have h8 := h.len8
  refine rt_yes h.len1 (by omega) fun i hi => ?_
  have h1 := h.par i hi
  rw [okR, h.name i hi, nmT_tx ⟨i, by omega⟩, ← h.name i hi, h.fresh i hi, decide_eq_true h1, (h.fuok _ i (Nat.lt_succ_self i) hi).rg]
  rfl
end Go.Proofs.YthigandmemifoaaGreatDoor

namespace Go.Proofs.YthigandmemifoaaGreatDoor
open Go.RowKit Go.PlainAid
set_option maxRecDepth 100000

theorem enc_next (s : ByteArray) (k : Nat) (h : k < s.size) : encL ((bs s).take (k + 1)) = encL ((bs s).take k) ++ encI (bt s k) := by
  rw [← bs_at]
  have h' : k < (bs s).length := by rw [bs_len]; exact h
  rw [List.take_add_one, encL_append]
  simp [List.getD, h', encL]
theorem enc_all (s : ByteArray) : encL ((bs s).take s.size) = encL (bs s) := by rw [List.take_of_length_le (by rw [bs_len]; omega)]
theorem enc_len (s : ByteArray) (k : Nat) : (encL ((bs s).take k)).length ≤ 3 * s.size := by
  have := encL_len ((bs s).take k)
  rw [List.length_take, bs_len] at this
  omega

theorem and15 (c : Int) (h0 : 0 ≤ c) (h1 : c ≤ 255) : bits BinOp.and IntKind.u8 c 15 = c % 16 := by
  rw [u8_and _ _ h0 (by omega) (by omega) (by omega)]
  have : (15 : Int).toNat = 15 := rfl
  rw [this, nat_mask4]
  omega
theorem dig_at (n : Int) (h : 0 ≤ n ∧ n < 16) : bt ⟨#[48, 49, 50, 51, 52, 53, 54, 55, 56, 57, 65, 66, 67, 68, 69, 70]⟩ n.toNat = dg n := by
  obtain ⟨m, rfl⟩ := Int.eq_ofNat_of_zero_le h.1
  have hm : m < 16 := by omega
  have key : ∀ m : Fin 16, bt ⟨#[48, 49, 50, 51, 52, 53, 54, 55, 56, 57, 65, 66, 67, 68, 69, 70]⟩ m.val = dg (m.val : Int) := by decide
  exact key ⟨m, hm⟩

set_option maxHeartbeats 1600000 in
theorem encodeP (s : ByteArray) (w : World) (hs : s.size ≤ 100000000) : Calls Tryz.prog 24 #[.string s] w fun e w' => e = .returned (.string (encS s)) ∧ Below w.heap.size w w' := by
  have gb := get_bt s
  go_enter Tryz.func24, Tryz.ntmps24
  go_wp2_with (at_make; refine wpList_mk _ rfl _ _ rfl _ s.size rfl rfl rfl (by omega) ?_)
  intro v0 w0 h0
  have H0 := Lib.hid h0
  clear h0
  go_wp2_with fail
  go_loopw [3, 11] (fun v i wr => ∃ k : Nat, k ≤ s.size ∧ i = .int .i64 k ∧ Own w.heap.size w v (encL ((bs s).take k)) wr) (fun _ i _ => s.size - (intOf i).toNat)
  case atStart => exact ⟨0, Nat.zero_le _, rfl, H0.out⟩
  case round =>
    obtain ⟨k, hk, rfl, hown⟩ := hrel
    have HO := Lib.hid hown
    clear hown
    have eb : Hid ((encL ((bs s).take k)).length ≤ 1000000000) := by have := enc_len s k; show _ ≤ _; omega
    by_cases hlt : k < s.size
    · have c0 : (k : Int) < (s.size : Int) := by omega
      by_cases hp : pl (bt s k) = true
      · go_wp2_with (first | (go_at_call 44; refine (plainP _ _).mono ?_; rintro e w' ⟨rfl, rfl⟩; rw [hp]) | (at_builtin; refine wpList_app _ rfl (.tmp 19) (.tmp 21) rfl w.heap.size w _ _ rfl (HO.out.alloc _) ?b1 wr.heap.size 1 1 [bt s k] rfl rfl (by omega) (heap_alloc_new _ _) ?_))
        case b1 => exact eb.out
        intro v1 w1 h1
        have H1 : Hid (Own w.heap.size w v1 (encL ((bs s).take (k + 1))) w1) := by rw [enc_next s k hlt, encI, if_pos hp]; exact h1
        clear h1
        go_wp2_with fail
        go_roundw
        case rel => exact ⟨k + 1, by omega, by go_num, H1.out⟩
        case measure => simp [intOf]; omega
      · have hp : pl (bt s k) = false := by simpa using hp
        go_wp2_with (first | (go_at_call 44; refine (plainP _ _).mono ?_; rintro e w' ⟨rfl, rfl⟩; rw [hp]))
        have gd := get_bt ⟨#[48, 49, 50, 51, 52, 53, 54, 55, 56, 57, 65, 66, 67, 68, 69, 70]⟩
        have q0 := bt_nonneg s k
        have q1 := bt_le s k
        have a1 : bits BinOp.and IntKind.u8 (bt s k) 15 = bt s k % 16 := and15 _ q0 q1
        have a2 : 0 ≤ bt s k / 16 ∧ bt s k / 16 < 16 := by omega
        have a3 : 0 ≤ bt s k % 16 ∧ bt s k % 16 < 16 := by omega
        have a4 := dig_at (bt s k / 16) a2
        have a5 := dig_at (bt s k % 16) a3
        go_region_law (refine step_app _ (by rfl) (.tmp 23) (.tmp 30) rfl w.heap.size w _ _ rfl ((HO.out.alloc _).drew) eb.out wr.heap.size 3 3 [37, dg (bt s k / 16), dg (bt s k % 16)] rfl rfl (by omega) (heap_alloc_new _ _) ?_; intro v1 w1 h1; have H1 := Lib.hid h1; clear h1)
        all_goals
          go_wp2_with fail
          go_roundw
          case rel => exact ⟨k + 1, by omega, by go_num, by rw [enc_next s k hlt, encI, if_neg (by simp [hp])]; exact H1.out⟩
          case measure => simp [intOf]; omega
    · obtain rfl : k = s.size := by omega
      have hcv := own_text HO.out
      rw [enc_all] at hcv
      go_wp2
      go_ret
      exact ⟨rfl, HO.out.2.1⟩
end Go.Proofs.YthigandmemifoaaGreatDoor

namespace Go.Proofs.YthigandmemifoaaGreatDoor
open Go.RowKit Go.PlainAid
set_option maxRecDepth 100000

theorem take_eq_next {α : Type} [Inhabited α] {a b : List α} {k : Nat} (h : a.take k = b.take k) (h1 : k < a.length) (h2 : k < b.length) (he : a.getD k default = b.getD k default) : a.take (k + 1) = b.take (k + 1) := by
  rw [List.take_add_one, List.take_add_one, h]
  simp only [List.getD, List.getElem?_eq_getElem h1, List.getElem?_eq_getElem h2, Option.getD_some] at he
  rw [List.getElem?_eq_getElem h1, List.getElem?_eq_getElem h2, he]
theorem ne_at {α : Type} [Inhabited α] {a b : List α} {k : Nat} (he : ¬ a.getD k default = b.getD k default) : ¬ a = b := fun h => he (by rw [h])
theorem str_beq (s t : ByteArray) (h : s = t) : (s.toList == t.toList) = true := by rw [h]; simp
theorem str_bne (s t : ByteArray) (h : ¬ s = t) : (s.toList == t.toList) = false := by rw [bs_eq]; exact decide_eq_false h

theorem pr_beq (s t : Pr) (h : s = t) : (s.1.toList == t.1.toList) = true ∧ (s.2.toList == t.2.toList) = true := by rw [h]; simp
theorem pr_bne (s t : Pr) (h : ¬ s = t) : (s.1.toList == t.1.toList) = false ∨ ((s.1.toList == t.1.toList) = true ∧ (s.2.toList == t.2.toList) = false) := by
  by_cases h1 : s.1 = t.1
  · exact Or.inr ⟨str_beq _ _ h1, str_bne _ _ (fun h2 => h (Prod.ext h1 h2))⟩
  · exact Or.inl (str_bne _ _ h1)

set_option maxHeartbeats 1600000 in
theorem sameP (v1 v2 : Value) (a b : List Pr) (w : World) (h1 : Ps w v1 a) (h2 : Ps w v2 b) (hz : a.length ≤ 1000000000) :
    Calls Tryz.prog 16 #[v1, v2] w fun e w' => e = .returned (.bool (decide (a = b))) ∧ Below w.heap.size w w' := by
  obtain ⟨A, cap, rfl, _, _, hc⟩ := h1
  obtain ⟨A2, cap2, rfl, _, _, hc2⟩ := h2
  have HC := Lib.hid hc
  have HC2 := Lib.hid hc2
  clear hc hc2
  by_cases hl : a.length = b.length
  · have HL := Lib.hid hl
    have c0 : ((a.length : Int) == (b.length : Int)) = true := by simp; omega
    clear hl
    go_enter Tryz.func16, Tryz.ntmps16
    go_wp2_with fail
    (try rw [c0])
    clear c0
    go_loopw [5] (fun i wr => ∃ (k : Nat), k ≤ a.length ∧ i = .int .i64 k ∧ a.take k = b.take k ∧ Below w.heap.size w wr) (fun i _ => a.length - (intOf i).toNat)
    case atStart => exact ⟨0, Nat.zero_le _, rfl, rfl, Below.refl _ _⟩
    case round =>
      obtain ⟨k, hk, rfl, ht, hbw⟩ := hrel
      have HT := Lib.hid ht
      have HW := Lib.hid hbw
      have hl2 := HL.out
      clear ht hbw
      by_cases hlt : k < a.length
      · have d0 : (k : Int) < (a.length : Int) := by omega
        have d1 : (k : Int) < (b.length : Int) := by omega
        have HX := Lib.hid (take_eq_next HT.out hlt (by omega))
        have HY := Lib.hid (@ne_at _ _ a b k)
        obtain ⟨x, o, rfl, hcell, hcelb⟩ := HC.out k hlt
        obtain ⟨x2, o2, rfl, hcell2, hcelb2⟩ := HC2.out k (by omega)
        have g1 : wr.cell? ⟨x, o + k * 2, none⟩ = some (.string (a.getD k default).1) := by rw [HW.out.cell (World.block_lt_of_cell? _ _ hcell)]; exact hcell
        have g2 : wr.cell? ⟨x2, o2 + k * 2, none⟩ = some (.string (b.getD k default).1) := by rw [HW.out.cell (World.block_lt_of_cell? _ _ hcell2)]; exact hcell2
        have g3 : wr.cell? ⟨x, o + k * 2 + 1, none⟩ = some (.string (a.getD k default).2) := by rw [HW.out.cell (World.block_lt_of_cell? _ _ hcelb)]; exact hcelb
        have g4 : wr.cell? ⟨x2, o2 + k * 2 + 1, none⟩ = some (.string (b.getD k default).2) := by rw [HW.out.cell (World.block_lt_of_cell? _ _ hcelb2)]; exact hcelb2
        clear hcell hcell2 hcelb hcelb2
        clear hl2
        generalize a.getD k default = s at *
        generalize b.getD k default = t at *
        by_cases hst : s = t
        · obtain ⟨q1, q2⟩ := pr_beq s t hst
          obtain ⟨s, s'⟩ := s
          obtain ⟨t, t'⟩ := t
          simp only at q1 q2 g1 g2 g3 g4
          have HST := Lib.hid hst
          clear hst
          go_wp2_with fail
          go_region
          go_wp2_with fail
          go_roundw
          case rel => exact ⟨k + 1, by omega, by go_num, HX.out HST.out, HW.out.drew⟩
          case measure => simp [intOf]; omega
        · have e0 : decide (a = b) = false := decide_eq_false (HY.out hst)
          have E0 := Lib.hid e0
          have hq := pr_bne s t hst
          clear e0 hst HX HY
          obtain ⟨s, s'⟩ := s
          obtain ⟨t, t'⟩ := t
          simp only at hq g1 g2 g3 g4
          rcases hq with q1 | ⟨q1, q2⟩
          all_goals
            go_wp2_with fail
            go_region
            go_wp2
            rw [E0.out]
            go_ret
            exact ⟨rfl, HW.out.drew⟩
      · obtain rfl : k = a.length := by omega
        have e0 : decide (a = b) = true := by
          have := HT.out
          rw [List.take_length, hl2, List.take_length] at this
          exact decide_eq_true this
        have E0 := Lib.hid e0
        clear e0 hl2
        go_wp2
        rw [E0.out]
        go_ret
        exact ⟨rfl, HW.out⟩
  · have c0 : ¬ (a.length : Int) = (b.length : Int) := by omega
    have c1 : ((a.length : Int) == (b.length : Int)) = false := by simpa using c0
    have e0 : decide (a = b) = false := decide_eq_false (fun h => hl (by rw [h]))
    have E0 := Lib.hid e0
    clear e0
    go_enter Tryz.func16, Tryz.ntmps16
    go_wp2
    rw [E0.out]
    go_ret
    exact ⟨rfl, Below.refl _ _⟩

end Go.Proofs.YthigandmemifoaaGreatDoor

namespace Go.Proofs
open Go.Shelf
def Tryz.lays156_ren : Go.Shelf.Ren := ⟨fun | 156 => 125 | 165 => 133 | 166 => 134 | 169 => 135 | 240 => 140 | 241 => 141 | 276 => 146 | 277 => 147 | n => n, fun | 31 => 30 | 9 => 9 | 3 => 3 | 4 => 4 | 0 => 0 | 20 => 20 | 72 => 181 | 76 => 185 | 70 => 179 | 37 => 74 | 75 => 184 | 127 => 192 | 164 => 197 | 5 => 5 | 80 => 187 | n => n, fun | n => n⟩
theorem Tryz.lays156 : Go.Proofs.Lays.n156 Tryz.prog Tryz.lays156_ren := {
  mixed := by kernel_rfl
  f156 := Tryz.func125.trans (congrArg some (by kernel_rfl))
  f165 := Tryz.func133.trans (congrArg some (by kernel_rfl))
  f166 := Tryz.func134.trans (congrArg some (by kernel_rfl))
  f169 := Tryz.func135.trans (congrArg some (by kernel_rfl))
  f240 := Tryz.func140.trans (congrArg some (by kernel_rfl))
  f241 := Tryz.func141.trans (congrArg some (by kernel_rfl))
  f276 := Tryz.func146.trans (congrArg some (by kernel_rfl))
  f277 := Tryz.func147.trans (congrArg some (by kernel_rfl))
  t0 := Tryz.underlying0
  a0 := Tryz.isAgg0
  z0 := Tryz.sizeOf0
  v0 := Tryz.zeroValue0
  t3 := Tryz.underlying3
  a3 := Tryz.isAgg3
  z3 := Tryz.sizeOf3
  v3 := Tryz.zeroValue3
  t4 := Tryz.underlying4
  a4 := Tryz.isAgg4
  z4 := Tryz.sizeOf4
  v4 := Tryz.zeroValue4
  t9 := Tryz.underlying9
  a9 := Tryz.isAgg9
  z9 := Tryz.sizeOf9
  v9 := Tryz.zeroValue9
  t20 := Tryz.underlying20
  a20 := Tryz.isAgg20
  z20 := Tryz.sizeOf20
  v20 := Tryz.zeroValue20
  t31 := Tryz.underlying30
  a31 := Tryz.isAgg30
  z31 := Tryz.sizeOf30
  v31 := Tryz.zeroValue30
  t37 := Tryz.underlying74
  a37 := Tryz.isAgg74
  z37 := Tryz.sizeOf74
  v37 := Tryz.zeroValue74
  t70 := Tryz.underlying179
  a70 := Tryz.isAgg179
  z70 := Tryz.sizeOf179
  v70 := Tryz.zeroValue179
  t72 := Tryz.underlying181
  a72 := Tryz.isAgg181
  z72 := Tryz.sizeOf181
  v72 := Tryz.zeroValue181
  t75 := Tryz.underlying184
  a75 := Tryz.isAgg184
  z75 := Tryz.sizeOf184
  v75 := Tryz.zeroValue184
  t76 := Tryz.underlying185
  a76 := Tryz.isAgg185
  z76 := Tryz.sizeOf185
  v76 := Tryz.zeroValue185
  t127 := Tryz.underlying192
  a127 := Tryz.isAgg192
  z127 := Tryz.sizeOf192
  v127 := Tryz.zeroValue192
  t164 := Tryz.underlying197
  a164 := Tryz.isAgg197
  z164 := Tryz.sizeOf197
  v164 := Tryz.zeroValue197 }
theorem Tryz.Builder_Extra_156 : Builder.Extra Tryz.prog Tryz.lays156_ren := {
  sizeBuilder := by kernel_rfl
  liesBuilder := by kernel_rfl
  t5 := Tryz.underlying5
  a5 := Tryz.isAgg5
  z5 := Tryz.sizeOf5
  v5 := Tryz.zeroValue5
  infoByte := by kernel_rfl
  cellsByte := by kernel_rfl
  sizeByte := by kernel_rfl
  neB5 := by decide }
open Go.RowKit in
theorem Tryz.strings_Join_none (a : Option Addr) (c : Nat) (sep : ByteArray) (w : World) :
    Calls Tryz.prog 125 #[.slice a 0 c, .string sep] w fun e w' => e = .returned (.string ⟨#[]⟩) ∧ w' = w := Any.strings_Join_none Tryz.lays156 Tryz.Builder_Extra_156 a c sep w
open Go.RowKit in
theorem Tryz.strings_Join (bk o c : Nat) (xs : List ByteArray) (sep : ByteArray) (w : World) (hcells : ∀ (j : Nat) x, xs[j]? = some x → w.cell? ⟨bk, o + j, none⟩ = some (.string x)) (hbk : bk < w.heap.size) (hN : xs.length ≤ 140737488355328) (hcap : xs.length ≤ c) (hlen : (Lib.join (xs.map (·.data.toList)) sep.data.toList).length ≤ 140737488355328) :
    Calls Tryz.prog 125 #[.slice (some ⟨bk, o, none⟩) xs.length c, .string sep] w fun e w' => e = .returned (.string ⟨(Lib.join (xs.map (·.data.toList)) sep.data.toList).toArray⟩) ∧ Below w.heap.size w w' := Any.strings_Join Tryz.lays156 Tryz.Builder_Extra_156 bk o c xs sep w hcells hbk hN hcap hlen
end Go.Proofs
