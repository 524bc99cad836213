/-
  porticokeep's Segs and the patterns of a row, with bounds on their texts.
-/
import Derived.Test.YtgiepgbjkkhniaaKWalk
import Derived.Test.YtgiepgbjkkhniaaSome
namespace Go.Proofs.Ytgiepgbjkkhniaa
open Go.RowKit Go.PlainAid

/-- a pattern that numbers make: few segments, short texts -/
def KeepZ (l : List Sg) : Prop := l.length ≤ 5 ∧ ∀ g ∈ l, g.2.size ≤ 100
def Mid4Z (l : List Sg) : Prop := l.length ≤ 4 ∧ ∀ g ∈ l, g.2.size ≤ 100
theorem midz_keep {l : List Sg} (h : Mid4Z l) : KeepZ l := ⟨by have := h.1; omega, h.2⟩
theorem push_z {l : List Sg} {g : Sg} (h : ∀ g ∈ l, g.2.size ≤ 100) (hg : g.2.size ≤ 100) : ∀ x ∈ l ++ [g], x.2.size ≤ 100 := by
  intro x hx
  rw [List.mem_append] at hx
  rcases hx with hx | hx
  · exact h x hx
  · simp at hx
    subst hx
    exact hg
theorem midz_last {l : List Sg} (h : Mid4Z l) (n : Int) (_ : n = 2 ∨ n = 3) : KeepZ (l ++ [(n, lastT)]) := ⟨by have := h.1; simp; omega, push_z h.2 (show lastT.size ≤ 100 by decide)⟩
theorem midz_push {l : List Sg} {g : Sg} (hm : Mid4Z l) (h : l.length < 4) (hg : g.2.size ≤ 100) : Mid4Z (l ++ [g]) := ⟨by simp; omega, push_z hm.2 hg⟩
theorem ks_size (n : Nat) : (ksT.getD n default).size ≤ 100 := by
  by_cases h : n < 6
  · have : ∀ n, n < 6 → (ksT.getD n default).size ≤ 100 := by decide
    exact this n h
  · have : ksT.getD n default = default := by
      simp only [List.getD]
      rw [List.getElem?_eq_none (show ksT.length ≤ n by show 6 ≤ n; omega)]
      rfl
    rw [this]
    decide

set_option maxHeartbeats 3200000 in
set_option maxRecDepth 100000 in
theorem segs13Z (A1 A2 : Option Addr) (n1 c1 n2 c2 : Nat) (last : Int) (f1 f2 : Nat → Int) (w : World) (h1 : Ia w A1 n1 f1) (h2 : Ia w A2 n2 f2) :
    Calls Try.prog 25 #[.agg #[.slice A1 n1 c1, .slice A2 n2 c2, .int .i64 last]] w fun e w' => ∃ v l, e = .returned v ∧ Gt w' v l ∧ KeepZ l ∧ Below w.heap.size w w' := by
  have hn1 := h1.1
  have hn2 := h2.1
  have H1 := Lib.hid h1
  have H2 := Lib.hid h2
  clear h1 h2
  have HX := Lib.hid (blk_alloc (blk_new w (.cells #[.slice A1 n1 c1, .slice A2 n2 c2, .int .i64 last] 69 (0, 0))) (.cells (ksT.map Value.string).toArray 9 (0, 0)))
  have HT := Lib.hid (blk_new1 w (.cells #[.slice A1 n1 c1, .slice A2 n2 c2, .int .i64 last] 69 (0, 0)) (.cells (ksT.map Value.string).toArray 9 (0, 0)))
  have HB := Lib.hid (((Below.refl w.heap.size w).alloc (Nat.le_refl _) (.cells #[.slice A1 n1 c1, .slice A2 n2 c2, .int .i64 last] 69 (0, 0))).alloc (by simp) (.cells (ksT.map Value.string).toArray 9 (0, 0)))
  go_enter Try.func25, Try.ntmps25
  go_wp2_with fail
  change Code.wp _ _ _ _ ((w.alloc (.cells #[.slice A1 n1 c1, .slice A2 n2 c2, .int .i64 last] 69 (0, 0))).alloc (.cells (ksT.map Value.string).toArray 9 (0, 0)))
  generalize (w.alloc (.cells #[.slice A1 n1 c1, .slice A2 n2 c2, .int .i64 last] 69 (0, 0))).alloc (.cells (ksT.map Value.string).toArray 9 (0, 0)) = w5 at *
  have KK : Hid (∀ w' : World, Below w5.heap.size w5 w' → (w'.cell? ⟨w.heap.size, 0, none⟩ = some (.slice A1 n1 c1) ∧ w'.cell? ⟨w.heap.size, 1, none⟩ = some (.slice A2 n2 c2) ∧ w'.cell? ⟨w.heap.size, 2, none⟩ = some (.int .i64 last)) ∧ (∀ i, i < 6 → w'.cell? ⟨w.heap.size + 1, i, none⟩ = some (.string (ksT.getD i default))) ∧ Ia w' A1 n1 f1 ∧ Ia w' A2 n2 f2) := by
    intro w' hk
    refine ⟨blk3 (blk_call HX.out hk), fun i hi => ?_, (H1.out.call HB.out).call hk, (H2.out.call HB.out).call hk⟩
    rw [blk_cell (blk_call HT.out hk)]
    have hlw : i < ksT.length := hi
    simp [List.getD, hlw]
  go_loopw [4, 5] (fun v i wr => ∃ (k : Nat) (xs : List Sg), k ≤ n1 ∧ k ≤ 4 ∧ i = .int .i64 k ∧ xs.length = k ∧ Mid4Z xs ∧ OwnG w5.heap.size w5 v xs wr) (fun _ i _ => 4 - (intOf i).toNat)
  case atStart => exact ⟨0, [], by omega, by omega, rfl, rfl, ⟨by simp, by simp⟩, nilG _ _ _ (Below.refl _ _) (Nat.le_refl _)⟩
  case round =>
    obtain ⟨k, xs, hkn, hk4, rfl, hxl, hmid, hown⟩ := hrel
    have HM := Lib.hid hmid
    have HO := Lib.hid hown
    clear hmid hown
    obtain ⟨⟨x0, x1, x2⟩, hts, hi1, hi2⟩ := KK.out wr HO.out.2.1
    by_cases hc : k < n1 ∧ k < 4
    · obtain ⟨hcn, hc4⟩ := hc
      have d0 : (k : Int) < (n1 : Int) := by omega
      have d1 : (k : Int) < 4 := by omega
      obtain ⟨b1, o1, rfl, hkc⟩ := hi1.2 k hcn
      have HI2 := Lib.hid hi2
      have wk := wi_in (f1 k) 1 (by omega)
      obtain ⟨kn, hkn1⟩ : ∃ kn : Nat, wi (f1 k) 1 = (kn : Int) := ⟨(wi (f1 k) 1).toNat, by omega⟩
      obtain ⟨pv, hpv⟩ : ∃ pv, pv = pickV n2 f2 k := ⟨_, rfl⟩
      have wt := wi_in pv 5 (by omega)
      obtain ⟨tn, htn⟩ : ∃ tn : Nat, wi pv 5 = (tn : Int) := ⟨(wi pv 5).toNat, by omega⟩
      have htn5 : tn ≤ 5 := by omega
      have hkn2 : kn ≤ 1 := by omega
      have htc := hts tn (by omega)
      have HK1 := Lib.hid hkn1
      have HPV := Lib.hid hpv
      have HTN := Lib.hid htn
      clear hts hi1 hi2 wk wt hkn1 hpv htn
      have hTz := ks_size tn
      generalize ksT.getD tn default = T at *
      have HTZ := Lib.hid hTz
      clear hTz
      have e1 : (tn : Int) < 6 := by omega
      have KS : Hid (∀ w' : World, Below wr.heap.size wr w' → w'.cell? ⟨w.heap.size, 0, none⟩ = some (.slice (some ⟨b1, o1, none⟩) n1 c1) ∧ w'.cell? ⟨w.heap.size, 1, none⟩ = some (.slice A2 n2 c2) ∧ w'.cell? ⟨b1, o1 + k, none⟩ = some (.int .i64 (f1 k)) ∧ w'.cell? ⟨w.heap.size + 1, tn, none⟩ = some (.string T) ∧ Below wr.heap.size wr w') := by
        intro w' hk
        exact ⟨by rw [hk.cell (World.block_lt_of_cell? _ _ x0)]; exact x0, by rw [hk.cell (World.block_lt_of_cell? _ _ x1)]; exact x1, by rw [hk.cell (World.block_lt_of_cell? _ _ hkc)]; exact hkc, by rw [hk.cell (World.block_lt_of_cell? _ _ htc)]; exact htc, hk⟩
      go_wp2_with fail
      go_region_held3 (fun w' => w'.cell? ⟨w.heap.size, 0, none⟩ = some (.slice (some ⟨b1, o1, none⟩) n1 c1) ∧ w'.cell? ⟨w.heap.size, 1, none⟩ = some (.slice A2 n2 c2) ∧ w'.cell? ⟨b1, o1 + k, none⟩ = some (.int .i64 (f1 k)) ∧ w'.cell? ⟨w.heap.size + 1, tn, none⟩ = some (.string T) ∧ Below wr.heap.size wr w')
        (first | exact KS.out _ ((Below.refl _ _).drew) | exact KS.out _ (((Below.refl _ _).alloc (Nat.le_refl _) _).drew))
        (first
          | (go_at_call_of 27 (f1 k); refine (within_nat _ 1 kn _ (by omega) HK1.out).mono ?_; rintro e w' ⟨rfl, rfl⟩)
          | (go_at_call_of 27 pv; refine (within_nat _ 5 tn _ (by omega) HTN.out).mono ?_; rintro e w' ⟨rfl, rfl⟩)
          | (go_at_call 28; refine (pickV30 _ _ _ _ _ pv _ (HI2.out.call (by first | exact (Below.refl _ _).drew | exact ((Below.refl _ _).alloc (Nat.le_refl _) _).drew)) HPV.out).mono ?_; rintro e w' ⟨rfl, rfl⟩))
      all_goals
        have eb : Hid (xs.length ≤ 1000000000) := by show _ ≤ _; omega
        obtain rfl | rfl : kn = 0 ∨ kn = 1 := by omega
        · have HP : Hid (Mid4Z (xs ++ [(0, T)])) := midz_push HM.out (by omega) HTZ.out
          have HO9 := Lib.hid (((HO.out.alloc (.cells #[.int .i64 0, .string T] 23 (0, 0))).alloc (.cells #[.int .i64 0, .string T] 23 (0, 0))).drew)
          have HN9 := Lib.hid (blk_new1 wr (.cells #[.int .i64 0, .string T] 23 (0, 0)) (.cells #[.int .i64 0, .string T] 23 (0, 0)))
          go_wp2_with (first | (at_builtin; refine wpList_appG _ rfl (.tmp 48) (.tmp 50) rfl w5.heap.size w5 _ _ rfl HO9.out ?b1 (wr.heap.size + 1) 1 1 [(0, T)] rfl rfl (by omega) HN9.out ?_))
          case b1 => exact eb.out
          intro v4 w4 h4 _ _
          have H4 := Lib.hid h4
          clear h4
          go_wp2_with fail
          go_roundw
          case rel => exact ⟨k + 1, xs ++ [(0, T)], by omega, by omega, by go_num, by simp; omega, HP.out, H4.out⟩
          case measure => simp [intOf]; omega
        · have c48 : (48 + (k : Int)) % 256 = 48 + (k : Int) := by omega
          have hcv := one_text (((wr.alloc (.cells #[.int .i64 1, .string T] 23 (0, 0))).alloc (.cells #[.int .u8 (48 + (k : Int))] 5 (0, 0))).drew) (wr.heap.size + 1) 1 (48 + (k : Int)) (by
            show ((wr.alloc (.cells #[.int .i64 1, .string T] 23 (0, 0))).alloc (.cells #[.int .u8 (48 + (k : Int))] 5 (0, 0))).cell? _ = _
            rw [blk_cell (blk_new1 _ _ _)]; rfl)
          have hDz : (st [48 + (k : Int)]).size = 1 := by rw [st_size]; rfl
          have HP : Hid (Mid4Z (xs ++ [(1, ⟨#[112]⟩ ++ st [48 + (k : Int)])])) := midz_push HM.out (by omega) (by show ((⟨#[112]⟩ : ByteArray) ++ st [48 + (k : Int)]).size ≤ 100; rw [ByteArray.size_append, hDz]; decide)
          generalize st [48 + (k : Int)] = D at *
          have n9 : ¬ 9223372036854775807 < 1 + D.size := by omega
          have HO9 := Lib.hid ((((HO.out.alloc (.cells #[.int .i64 1, .string (⟨#[112]⟩ ++ D)] 23 (0, 0))).alloc (.cells #[.int .u8 (48 + (k : Int))] 5 (0, 0))).alloc (.cells #[.int .i64 1, .string (⟨#[112]⟩ ++ D)] 23 (0, 0))).drew)
          have HN9 : Hid ((((wr.alloc (.cells #[.int .i64 1, .string (⟨#[112]⟩ ++ D)] 23 (0, 0))).alloc (.cells #[.int .u8 (48 + (k : Int))] 5 (0, 0))).alloc (.cells #[.int .i64 1, .string (⟨#[112]⟩ ++ D)] 23 (0, 0))).heap[wr.heap.size + 1 + 1]? = some (.cells #[.int .i64 1, .string (⟨#[112]⟩ ++ D)] 23 (0, 0))) := by
            have := blk_new1 (wr.alloc (.cells #[.int .i64 1, .string (⟨#[112]⟩ ++ D)] 23 (0, 0))) (.cells #[.int .u8 (48 + (k : Int))] 5 (0, 0)) (.cells #[.int .i64 1, .string (⟨#[112]⟩ ++ D)] 23 (0, 0))
            have hz : (wr.alloc (.cells #[.int .i64 1, .string (⟨#[112]⟩ ++ D)] 23 (0, 0))).heap.size + 1 = wr.heap.size + 1 + 1 := by simp
            rw [hz] at this
            exact this
          go_wp2_with (first | (at_builtin; refine wpList_appG _ rfl (.tmp 48) (.tmp 50) rfl w5.heap.size w5 _ _ rfl HO9.out ?b1 (wr.heap.size + 1 + 1) 1 1 [(1, (⟨#[112]⟩ : ByteArray) ++ D)] rfl rfl (by omega) HN9.out ?_))
          case b1 => exact eb.out
          intro v4 w4 h4 _ _
          have H4 := Lib.hid h4
          clear h4
          go_wp2_with fail
          go_roundw
          case rel => exact ⟨k + 1, xs ++ [(1, (⟨#[112]⟩ : ByteArray) ++ D)], by omega, by omega, by go_num, by simp; omega, HP.out, H4.out⟩
          case measure => simp [intOf]; omega
    · have hxx : (¬ (k : Int) < (n1 : Int)) ∨ ((k : Int) < (n1 : Int) ∧ ¬ (k : Int) < 4) := by omega
      have wk := wi_in last 5 (by omega)
      obtain ⟨ln, hln⟩ : ∃ ln : Nat, wi last 5 = (ln : Int) := ⟨(wi last 5).toNat, by omega⟩
      have HL := Lib.hid hln
      have HBr := Lib.hid (HB.out.trans (HO.out.2.1.mono HB.out.size))
      have hln5 : ln ≤ 5 := by omega
      have eb : Hid (xs.length ≤ 1000000000) := by show _ ≤ _; omega
      have HKM := Lib.hid (midz_keep HM.out)
      have HKL := Lib.hid (fun n => midz_last HM.out n)
      obtain ⟨A4, n4, c4, hv4⟩ := HO.out.gs.shape
      subst hv4
      clear hts hi1 hi2 wk hln hc
      by_cases h23 : ln = 2 ∨ ln = 3
      · have HO9 := Lib.hid (HO.out.alloc (.cells #[.int .i64 ln, .string lastT] 23 (0, 0)))
        rcases hxx with c0 | ⟨c0, c5⟩
        all_goals
          rcases h23 with rfl | rfl
          all_goals
            go_wp2_with (first | (go_at_call 27; refine (within_nat _ 5 _ _ (by omega) HL.out).mono ?_; rintro e w' ⟨rfl, hww⟩; subst hww) | (at_builtin; refine wpList_appG _ rfl (.tmp 61) (.tmp 64) rfl w5.heap.size w5 _ xs rfl HO9.out ?b1 _ 1 1 [(_, lastT)] rfl rfl (by omega) (heap_alloc_new _ _) ?_))
            case b1 => exact eb.out
            intro v4 w4 h4 _ _
            have H4 := Lib.hid h4
            obtain ⟨A6, n6, c6, hv6⟩ := h4.gs.shape
            subst hv6
            clear h4
            go_wp2
            go_ret
            exact ⟨_, _, rfl, H4.out.gt, HKL.out _ (by omega), HB.out.trans (H4.out.2.1.mono HB.out.size)⟩
      · have q2 : ((ln : Int) == 2) = false := by simp; omega
        have q3 : ((ln : Int) == 3) = false := by simp; omega
        rcases hxx with c0 | ⟨c0, c5⟩
        all_goals
          go_wp2_with (first | (go_at_call 27; refine (within_nat _ 5 _ _ (by omega) HL.out).mono ?_; rintro e w' ⟨rfl, hww⟩; subst hww))
          go_ret
          exact ⟨_, xs, rfl, HO.out.gt, HKM.out, HBr.out⟩
end Go.Proofs.Ytgiepgbjkkhniaa

namespace Go.Proofs.Ytgiepgbjkkhniaa
open Go.RowKit Go.PlainAid
set_option maxRecDepth 100000
set_option linter.unusedSimpArgs false
/-- short ones, with texts that a string may have -/
def NineZ (ls : List (List Sg)) : Prop := ∀ l ∈ ls, l.length ≤ 9 ∧ ∀ g ∈ l, g.2.size ≤ 9223372036854775807
theorem NineZ.few {ls : List (List Sg)} (h : NineZ ls) : Few ls := fun l hl => by have := (h l hl).1; omega
theorem ninez_push {ls : List (List Sg)} {l : List Sg} (h : NineZ ls) (hl : l.length ≤ 9) (hz : ∀ g ∈ l, g.2.size ≤ 9223372036854775807) : NineZ (ls ++ [l]) := by
  intro x hx
  rw [List.mem_append] at hx
  rcases hx with hx | hx
  · exact h x hx
  · simp at hx
    subst hx
    exact ⟨hl, hz⟩

set_option maxHeartbeats 3200000 in
set_option maxRecDepth 100000 in
theorem some10Z (A : Option Addr) (n c : Nat) (v2 : Value) (raw : List (List Sg)) (w : World) (hk : Ks w A n) (hr : Gss w v2 raw) (hrl : raw.length ≤ 9223372036854775807) (hrs : ∀ l ∈ raw, l.length ≤ 9223372036854775807) (hrz : ∀ l ∈ raw, ∀ g ∈ l, g.2.size ≤ 9223372036854775807) :
    Calls Try.prog 12 #[.slice A n c, v2] w fun e w' => ∃ u ls, e = .returned u ∧ OwnL w.heap.size w u ls w' ∧ NineZ ls ∧ ls.length ≤ 9 + min 3 raw.length := by
  have hn1 := hk.1
  have HK := Lib.hid hk
  have HR := Lib.hid hr
  obtain ⟨A2, cap2, rfl, _, _, _⟩ := hr
  clear hk
  go_enter Try.func12, Try.ntmps12
  go_wp2_with fail
  go_loopw [5, 6] (fun v i wr => ∃ (k : Nat) (ls : List (List Sg)), k ≤ n ∧ k ≤ 9 ∧ i = .int .i64 k ∧ ls.length = k ∧ NineZ ls ∧ OwnL w.heap.size w v ls wr) (fun _ i _ => 9 - (intOf i).toNat)
  case atStart => exact ⟨0, [], by omega, by omega, rfl, rfl, (fun l hl => by cases hl), nilL _ _ _ (Below.refl _ _) (Nat.le_refl _)⟩
  case round =>
    obtain ⟨k, ls, hkn, hk9, rfl, hl, hsix, hown⟩ := hrel
    have H6 := Lib.hid hsix
    have HO := Lib.hid hown
    obtain ⟨A5, n5, c5, rfl⟩ := hown.shape
    clear hsix hown
    by_cases hc : k < n ∧ k < 9
    · obtain ⟨hcn, hc9⟩ := hc
      have d0 : (k : Int) < (n : Int) := by omega
      have d1 : (k : Int) < 9 := by omega
      obtain ⟨b, o, A1, m1, c1, A3, m3, c3, la, f1, f2, rfl, x0, x1, x2, y1, y2⟩ := (HK.out.call HO.out.below).2 k hcn
      have Y1 := Lib.hid y1
      have Y2 := Lib.hid y2
      clear y1 y2
      go_wp2_with (first | (go_at_call 25; refine (segs13Z A1 A3 m1 c1 m3 c3 la f1 f2 _ Y1.out Y2.out).mono ?_; rintro e w1 ⟨va, l, rfl, hg, hkk, h⟩; have G1 := Lib.hid hg; have Q1 := Lib.hid hkk; have M1 := Lib.hid h; obtain ⟨Aa, na, ca, rfl⟩ := hg.shape; clear hg hkk h) | (at_builtin; refine wpList_appL (w := w1.alloc (.cells #[.slice Aa na ca] 26 (0, 0))) rfl (.tmp 18) (.tmp 24) rfl rfl ((HO.out.call M1.out).alloc (.cells #[.slice Aa na ca] 26 (0, 0))) ?b1 _ 1 1 [l] rfl rfl (by omega) (by omega) (fun e => by cases e) (one_src (blk_new w1 (.cells #[.slice Aa na ca] 26 (0, 0))) (G1.out.call ((Below.refl _ _).alloc (Nat.le_refl _) _))) ?_))
      case b1 => omega
      intro v4 w4 h4 _
      have H4 := Lib.hid h4
      obtain ⟨A6, n6, c6, rfl⟩ := h4.shape
      clear h4
      go_wp2_with fail
      go_roundw
      case rel => exact ⟨k + 1, ls ++ [l], by omega, by omega, by go_num, by simp; omega, ninez_push H6.out (by have := Q1.out.1; omega) (fun g hg => by have := Q1.out.2 g hg; omega), H4.out⟩
      case measure => simp [intOf]; omega
    · have hxx : (¬ (k : Int) < (n : Int)) ∨ ((k : Int) < (n : Int) ∧ ¬ (k : Int) < 9) := by omega
      have HL8 : Hid (ls.length ≤ 9) := by show _ ≤ _; omega
      clear hc hl hkn hk9
      rcases hxx with e0 | ⟨e0, e1⟩
      all_goals
        go_wp2_with fail
        go_loopw [5, 7] (fun v i wz => ∃ (j : Nat) (ms : List (List Sg)), j ≤ raw.length ∧ j ≤ 3 ∧ i = .int .i64 j ∧ ms.length ≤ 9 + j ∧ NineZ ms ∧ OwnL w.heap.size w v ms wz) (fun _ i _ => 3 - (intOf i).toNat)
        case atStart => exact ⟨0, ls, by omega, by omega, rfl, by have := HL8.out; omega, H6.out, HO.out⟩
        case round =>
          obtain ⟨j, ms, hjn, hj3, rfl, hml, hsix, hown⟩ := hrel
          have J6 := Lib.hid hsix
          have JO := Lib.hid hown
          obtain ⟨A7, n7, c7, rfl⟩ := hown.shape
          clear hsix hown
          by_cases hcj : j < raw.length ∧ j < 3
          · obtain ⟨hcn, hc3⟩ := hcj
            have f0 : (j : Int) < (raw.length : Int) := by omega
            have f1 : (j : Int) < 3 := by omega
            obtain ⟨A2', cap2', eR, _, _, hcR⟩ := (HR.out.call JO.out.below)
            simp only [Value.slice.injEq] at eR
            obtain ⟨rfl, -, rfl⟩ := eR
            obtain ⟨b, o, u, rfl, x0, hu⟩ := hcR j hcn
            have hrl2 := hrs _ (getD_mem raw j hcn)
            have HRZ := Lib.hid (hrz _ (getD_mem raw j hcn))
            have hblt : b < w.heap.size := by
              obtain ⟨A3', cap3', eR3, _, _, hcR3⟩ := HR.out
              simp only [Value.slice.injEq] at eR3
              obtain ⟨e1, -, -⟩ := eR3
              obtain ⟨b3, o3, u3, e3, x3, _⟩ := hcR3 j hcn
              rw [← e1] at e3
              cases e3
              exact World.block_lt_of_cell? w _ x3
            have HU := Lib.hid hu
            obtain ⟨Ar, cr, hur, hcr1, hcr2, hcr3⟩ := hu
            have HCR := Lib.hid hcr3
            have HCR2 := Lib.hid hcr2
            clear hcR hcr3 hcr2
            generalize raw.getD j default = lr at *
            obtain ⟨nr, hnr⟩ : ∃ nr, lr.length = nr := ⟨_, rfl⟩
            rw [hnr] at hur hcr1 hrl2
            subst hur
            obtain ⟨mm, hmm⟩ : ∃ mm : Nat, mm = min nr 9 := ⟨_, rfl⟩
            have hmI : min (nr : Int) 9 = (mm : Int) := by omega
            have m6 : mm ≤ 9 := by omega
            have mn : mm ≤ nr := by omega
            have mi : (mm : Int) ≤ (cr : Int) := by omega
            have hNR := Lib.hid hnr
            clear hmm hnr
            go_wp2_with fail
            have hS0 : (fun w' : World => w'.cell? ⟨b, o + j, none⟩ = some (.slice Ar nr cr)) (World.drew wr) := x0
            refine wp_region_sink (S := (fun w' : World => w'.cell? ⟨b, o + j, none⟩ = some (.slice Ar nr cr))) (n := 1000) (by kernel_rfl) ?_
            change wpSink _ _ _ _ _ 1000 17 _ _ _
            refine sink_take1 (i := 0) (d := some 36) (v := ?_) rfl rfl (by kernel_rfl) (by decide) (by kernel_rfl) (by kernel_rfl) (fun _ _ _ h => h) (Or.inl ⟨by rfl, ?_⟩) hS0 ?_
            rotate_left
            · intro wz hSw
              (try dsimp only at hSw)
              go_simp
              (try with_reducible rfl)
            try simp only [Act.put, List.setIfInBounds_toArray, List.set_cons_zero, List.set_cons_succ]
            refine sink_take1 (i := 2) (d := some 38) (v := ?_) rfl rfl (by kernel_rfl) (by decide) (by kernel_rfl) (by kernel_rfl) (fun _ _ _ h => h) (Or.inl ⟨by rfl, ?_⟩) hS0 ?_
            rotate_left
            · intro wz hSw
              (try dsimp only at hSw)
              go_simp
              (try with_reducible rfl)
            try simp only [Act.put, List.setIfInBounds_toArray, List.set_cons_zero, List.set_cons_succ]
            refine sink_take1 (i := 3) (d := some 39) (v := ?_) rfl rfl (by kernel_rfl) (by decide) (by kernel_rfl) (by kernel_rfl) (fun _ _ _ h => h) (Or.inl ⟨by rfl, ?_⟩) hS0 ?_
            rotate_left
            · intro wz hSw
              (try dsimp only at hSw)
              go_simp
              (try with_reducible rfl)
            try simp only [Act.put, List.setIfInBounds_toArray, List.set_cons_zero, List.set_cons_succ]
            refine sink_take1 (i := 4) (d := some 40) (v := ?_) rfl rfl (by kernel_rfl) (by decide) (by kernel_rfl) (by kernel_rfl) (fun _ _ _ h => h) (Or.inl ⟨by rfl, ?_⟩) hS0 ?_
            rotate_left
            · intro wz hSw
              (try dsimp only at hSw)
              go_simp
              (try with_reducible rfl)
            try simp only [Act.put, List.setIfInBounds_toArray, List.set_cons_zero, List.set_cons_succ]
            refine sink_take1 (i := 5) (d := some 41) (v := ?_) rfl rfl (by kernel_rfl) (by decide) (by kernel_rfl) (by kernel_rfl) (fun _ _ _ h => h) (Or.inl ⟨by rfl, ?_⟩) hS0 ?_
            rotate_left
            · intro wz hSw
              (try dsimp only at hSw)
              go_simp
              (try with_reducible rfl)
            try simp only [Act.put, List.setIfInBounds_toArray, List.set_cons_zero, List.set_cons_succ]
            refine sink_take1 (i := 6) (d := some 42) (v := ?_) rfl rfl (by kernel_rfl) (by decide) (by kernel_rfl) (by kernel_rfl) (fun _ _ _ h => h) (Or.inl ⟨by rfl, ?_⟩) hS0 ?_
            rotate_left
            · intro wz hSw
              (try dsimp only at hSw)
              go_simp
              (try with_reducible rfl)
            try simp only [Act.put, List.setIfInBounds_toArray, List.set_cons_zero, List.set_cons_succ]
            refine sink_take1 (i := 7) (d := some 43) (v := ?_) rfl rfl (by kernel_rfl) (by decide) (by kernel_rfl) (by kernel_rfl) (fun _ _ _ h => h) (Or.inl ⟨by rfl, ?_⟩) hS0 ?_
            rotate_left
            · intro wz hSw
              (try dsimp only at hSw)
              go_simp
              (try with_reducible rfl)
            try simp only [Act.put, List.setIfInBounds_toArray, List.set_cons_zero, List.set_cons_succ]
            refine sink_take1 (i := 8) (d := some 44) (v := ?_) rfl rfl (by kernel_rfl) (by decide) (by kernel_rfl) (by kernel_rfl) (fun _ _ _ h => h) (Or.inl ⟨by rfl, ?_⟩) hS0 ?_
            rotate_left
            · intro wz hSw
              (try dsimp only at hSw)
              go_simp
              (try with_reducible rfl)
            try simp only [Act.put, List.setIfInBounds_toArray, List.set_cons_zero, List.set_cons_succ]
            refine sink_take1 (i := 9) (d := some 45) (v := ?_) rfl rfl (by kernel_rfl) (by decide) (by kernel_rfl) (by kernel_rfl) (fun _ _ _ h => h) (Or.inl ⟨by rfl, ?_⟩) hS0 ?_
            rotate_left
            · intro wz hSw
              (try dsimp only at hSw)
              go_simp
              (try with_reducible rfl)
            try simp only [Act.put, List.setIfInBounds_toArray, List.set_cons_zero, List.set_cons_succ]
            refine sink_take1 (i := 10) (d := some 46) (v := ?_) rfl rfl (by kernel_rfl) (by decide) (by kernel_rfl) (by kernel_rfl) (fun _ _ _ h => h) (Or.inl ⟨by rfl, ?_⟩) hS0 ?_
            rotate_left
            · intro wz hSw
              (try dsimp only at hSw)
              go_simp
              (try with_reducible rfl)
            try simp only [Act.put, List.setIfInBounds_toArray, List.set_cons_zero, List.set_cons_succ]
            refine sink_take1 (i := 11) (d := some 47) (v := ?_) rfl rfl (by kernel_rfl) (by decide) (by kernel_rfl) (by kernel_rfl) (fun _ _ _ h => h) (Or.inl ⟨by rfl, ?_⟩) hS0 ?_
            rotate_left
            · intro wz hSw
              (try dsimp only at hSw)
              go_simp
              (try with_reducible rfl)
            try simp only [Act.put, List.setIfInBounds_toArray, List.set_cons_zero, List.set_cons_succ]
            refine sink_take1 (i := 12) (d := some 48) (v := ?_) rfl rfl (by kernel_rfl) (by decide) (by kernel_rfl) (by kernel_rfl) (fun _ _ _ h => h) (Or.inl ⟨by rfl, ?_⟩) hS0 ?_
            rotate_left
            · intro wz hSw
              (try dsimp only at hSw)
              go_simp
              (try with_reducible rfl)
            try simp only [Act.put, List.setIfInBounds_toArray, List.set_cons_zero, List.set_cons_succ]
            have JO1 := Lib.hid (JO.out.call ((Below.refl wr.heap.size wr).drew))
            have E0 := Lib.hid (empG wr.heap.size wr wr.drew ((Below.refl _ _).drew) (Nat.le_refl _))
            have B0 := Lib.hid (((Below.refl wr.heap.size wr).drew).alloc (Nat.le_refl _) (.cells #[] 23 (0, 0)))
            have SRC : Hid (∀ i, i < mm → ∃ b' off', Ar = some ⟨b', off', none⟩ ∧ (wr.drew.alloc (.cells #[] 23 (0, 0))).cell? ⟨b', off' + i * 2, none⟩ = some (.int .i64 ((lr.take mm).getD i default).1) ∧ (wr.drew.alloc (.cells #[] 23 (0, 0))).cell? ⟨b', off' + i * 2 + 1, none⟩ = some (.string ((lr.take mm).getD i default).2)) := by
              intro i hi
              obtain ⟨b', o', e, h1, h2⟩ := HCR.out i (by have := hNR.out; omega)
              have et : (lr.take mm).getD i default = lr.getD i default := by simp only [List.getD]; rw [List.getElem?_take_of_lt hi]
              rw [et]
              exact ⟨b', o', e, by rw [B0.out.cell (World.block_lt_of_cell? _ _ h1)]; exact h1, by rw [B0.out.cell (World.block_lt_of_cell? _ _ h2)]; exact h2⟩
            have LT : Hid ((lr.take mm).length = mm) := by show _ = _; rw [List.length_take, hNR.out]; omega
            have cellK : Hid (∀ W : World, Below wr.heap.size wr W → W.cell? ⟨b, o + j, none⟩ = some (.slice Ar nr cr)) := fun W hW => by rw [hW.cell (World.block_lt_of_cell? _ _ x0)]; exact x0
            refine sink_one (i := 1) (by kernel_rfl) ?_
            refine wpOp_step rfl (fun K' hK => ?_)
            have HKK := Lib.hid hK
            clear hK
            rw [if_pos (by rfl)]
            go_simp
            refine HKK.out _ _ ⟨Or.inr (cellK.out _ B0.out), ?_⟩
            clear HKK
            try simp only [Act.put, List.setIfInBounds_toArray, List.set_cons_zero, List.set_cons_succ]
            refine sink_one (i := 13) (by kernel_rfl) ?_
            refine wpOp_step rfl (fun K' hK => ?_)
            have HKK := Lib.hid hK
            clear hK
            rw [if_pos (by rfl)]
            refine wp_fewG _ (.tmp 37) (.tmp 48) rfl wr.heap.size wr _ rfl E0.out Ar mm cr (lr.take mm) rfl LT.out (by omega) (by omega) HCR2.out SRC.out ?_
            intro v9 w9 h9 hgr9
            have H9 := Lib.hid h9
            have B9 := Lib.hid h9.2.1
            obtain ⟨A9, n9, c9, rfl⟩ := h9.gs.shape
            clear h9 hgr9
            refine HKK.out _ _ ⟨Or.inr (cellK.out _ B9.out), ?_⟩
            clear HKK
            change wpSink _ _ _ _ _ _ _ _ (Act.put _ (some 49) _) _
            try simp only [Act.put, List.setIfInBounds_toArray, List.set_cons_zero, List.set_cons_succ]
            refine sink_one (i := 14) (by kernel_rfl) ?_
            refine wpOp_step rfl (fun K' hK => ?_)
            have HKK := Lib.hid hK
            clear hK
            rw [if_pos (by rfl)]
            go_simp
            have B10 := Lib.hid (B9.out.alloc B9.out.size (.cells #[.slice A9 n9 c9] 26 (0, 0)))
            refine HKK.out _ _ ⟨Or.inr (cellK.out _ B10.out), ?_⟩
            clear HKK
            try simp only [Act.put, List.setIfInBounds_toArray, List.set_cons_zero, List.set_cons_succ]
            refine sink_one (i := 15) (by kernel_rfl) ?_
            refine wpOp_step rfl (fun K' hK => ?_)
            have HKK := Lib.hid hK
            clear hK
            rw [if_pos (by rfl)]
            refine wp_appL (w := w9.alloc (.cells #[.slice A9 n9 c9] 26 (0, 0))) (.tmp 36) (.tmp 50) rfl rfl (JO.out.call B10.out) ?b1 _ 1 1 [lr.take mm] rfl rfl (by omega) (by omega) (fun e => by cases e) (one_src (blk_new w9 (.cells #[.slice A9 n9 c9] 26 (0, 0))) (H9.out.gt.call ((Below.refl _ _).alloc (Nat.le_refl _) _))) ?_
            case b1 => omega
            intro v11 w11 h11 hg11
            have H11 := Lib.hid h11
            obtain ⟨A11, n11, c11, rfl⟩ := h11.shape
            have hS5 : (fun w' : World => w'.cell? ⟨b, o + j, none⟩ = some (.slice Ar nr cr)) w11 := by
              show w11.cell? _ = _
              rw [h11.below.cell hblt, ← JO.out.below.cell hblt]
              exact x0
            clear h11 hg11
            refine HKK.out _ _ ⟨Or.inr hS5, ?_⟩
            clear HKK
            change wpSink _ _ _ _ _ _ _ _ (Act.put _ (some 51) _) _
            try simp only [Act.put, List.setIfInBounds_toArray, List.set_cons_zero, List.set_cons_succ]
            refine sink_take1 (i := 16) (d := some 5) (v := ?_) rfl rfl (by kernel_rfl) (by decide) (by kernel_rfl) (by kernel_rfl) (fun _ _ _ h => h) (Or.inl ⟨by rfl, ?_⟩) hS5 ?_
            rotate_left
            · intro wz hSw
              go_simp
              (try with_reducible rfl)
            try simp only [Act.put, List.setIfInBounds_toArray, List.set_cons_zero, List.set_cons_succ]
            refine sink_done (by kernel_rfl) ?_
            clear hS0 hS5
            go_wp2_with fail
            go_roundw
            case rel => exact ⟨j + 1, ms ++ [lr.take mm], by omega, by omega, by go_num, by simp; omega, ninez_push J6.out (by have := LT.out; omega) (fun g hg => HRZ.out g (List.mem_of_mem_take hg)), H11.out⟩
            case measure => simp [intOf]; omega
          · have hyy : (¬ (j : Int) < (raw.length : Int)) ∨ ((j : Int) < (raw.length : Int) ∧ ¬ (j : Int) < 3) := by omega
            have hfin : Hid (ms.length ≤ 9 + min 3 raw.length) := by show _ ≤ _; omega
            rcases hyy with q0 | ⟨q0, q1⟩
            all_goals
              go_wp2
              go_ret
              exact ⟨_, rfl, ms, JO.out, J6.out, hfin.out⟩
end Go.Proofs.Ytgiepgbjkkhniaa
