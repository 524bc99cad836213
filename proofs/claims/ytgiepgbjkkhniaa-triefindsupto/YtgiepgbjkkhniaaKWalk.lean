/-
  porticokeep's Segs, walked.
-/
import Derived.Test.YtgiepgbjkkhniaaKeep
import Derived.Test.YtgiepgbjkkhniaaPat
namespace Go.Proofs.Ytgiepgbjkkhniaa
open Go.RowKit Go.PlainAid

def ksT : List ByteArray := [⟨#[97]⟩, ⟨#[98]⟩, ⟨#[105, 116, 101, 109]⟩, ⟨#[122]⟩, ⟨#[49]⟩, ⟨#[108, 105, 115, 116]⟩]
def lastT : ByteArray := ⟨#[108, 97, 115, 116]⟩
/-- a pattern that numbers make: few segments -/
def KeepG (l : List Sg) : Prop := l.length ≤ 5
def Mid4 (l : List Sg) : Prop := l.length ≤ 4
theorem mid_keep {l : List Sg} (h : Mid4 l) : KeepG l := by unfold Mid4 at h; unfold KeepG; omega
theorem mid_last {l : List Sg} (h : Mid4 l) (n : Int) (_ : n = 2 ∨ n = 3) : KeepG (l ++ [(n, lastT)]) := by unfold Mid4 at h; unfold KeepG; simp; omega
theorem mid_push {l : List Sg} {g : Sg} (h : l.length < 4) : Mid4 (l ++ [g]) := by unfold Mid4; simp; omega
/-- a slice of segments in a block of segments -/
def Gt (w : World) (v : Value) (l : List Sg) : Prop := Gs w v l ∧ ∀ b o n c, v = .slice (some ⟨b, o, none⟩) n c → ∃ cur fz, w.heap[b]? = some (.cells cur 23 fz)
theorem Gt.call {w w' : World} {v : Value} {l : List Sg} (h : Gt w v l) (hb : Below w.heap.size w w') : Gt w' v l := by
  refine ⟨h.1.call hb, fun b o n c e => ?_⟩
  obtain ⟨cur, fz, hk⟩ := h.2 b o n c e
  exact ⟨cur, fz, blk_call hk hb⟩
theorem OwnG.gt {B : Nat} {w0 : World} {v : Value} {xs : List Sg} {w : World} (h : OwnG B w0 v xs w) : Gt w v xs := by
  refine ⟨h.gs, fun b o n c e => ?_⟩
  obtain ⟨_, ⟨rfl, _⟩ | ⟨g, cap, cur, rfl, _, hg, _⟩⟩ := h.1
  · cases e
  · cases e
    exact ⟨cur, _, hg⟩
theorem blk3 {w : World} {b : Nat} {x y z : Value} {t : TypeId} (h : w.heap[b]? = some (.cells #[x, y, z] t (0, 0))) :
    w.cell? ⟨b, 0, none⟩ = some x ∧ w.cell? ⟨b, 1, none⟩ = some y ∧ w.cell? ⟨b, 2, none⟩ = some z := by
  refine ⟨?_, ?_, ?_⟩ <;> rw [blk_cell h] <;> rfl

set_option maxHeartbeats 3200000 in
set_option maxRecDepth 100000 in
theorem segs13 (A1 A2 : Option Addr) (n1 c1 n2 c2 : Nat) (last : Int) (f1 f2 : Nat → Int) (w : World) (h1 : Ia w A1 n1 f1) (h2 : Ia w A2 n2 f2) :
    Calls Try.prog 25 #[.agg #[.slice A1 n1 c1, .slice A2 n2 c2, .int .i64 last]] w fun e w' => ∃ v l, e = .returned v ∧ Gt w' v l ∧ KeepG l ∧ Below w.heap.size w w' := by
  have hn1 := h1.1
  have hn2 := h2.1
  have H1 := Lib.hid h1
  have H2 := Lib.hid h2
  clear h1 h2
  have HX := Lib.hid (blk_alloc (blk_new w (.cells #[.slice A1 n1 c1, .slice A2 n2 c2, .int .i64 last] 69 (0, 0))) (.cells (ksT.map Value.string).toArray 9 (0, 0)))
  have HT := Lib.hid (blk_new1 w (.cells #[.slice A1 n1 c1, .slice A2 n2 c2, .int .i64 last] 69 (0, 0)) (.cells (ksT.map Value.string).toArray 9 (0, 0)))
  have HB := Lib.hid (((Below.refl w.heap.size w).alloc (Nat.le_refl _) (.cells #[.slice A1 n1 c1, .slice A2 n2 c2, .int .i64 last] 69 (0, 0))).alloc (by simp) (.cells (ksT.map Value.string).toArray 9 (0, 0)))
  go_enter Try.func25, Try.ntmps25
  go_wp2_with fail
  change Code.wp _ _ _ _ ((w.alloc (.cells #[.slice A1 n1 c1, .slice A2 n2 c2, .int .i64 last] 69 (0, 0))).alloc (.cells (ksT.map Value.string).toArray 9 (0, 0)))
  generalize (w.alloc (.cells #[.slice A1 n1 c1, .slice A2 n2 c2, .int .i64 last] 69 (0, 0))).alloc (.cells (ksT.map Value.string).toArray 9 (0, 0)) = w5 at *
  have KK : Hid (∀ w' : World, Below w5.heap.size w5 w' → (w'.cell? ⟨w.heap.size, 0, none⟩ = some (.slice A1 n1 c1) ∧ w'.cell? ⟨w.heap.size, 1, none⟩ = some (.slice A2 n2 c2) ∧ w'.cell? ⟨w.heap.size, 2, none⟩ = some (.int .i64 last)) ∧ (∀ i, i < 6 → w'.cell? ⟨w.heap.size + 1, i, none⟩ = some (.string (ksT.getD i default))) ∧ Ia w' A1 n1 f1 ∧ Ia w' A2 n2 f2) := by
    intro w' hk
    refine ⟨blk3 (blk_call HX.out hk), fun i hi => ?_, (H1.out.call HB.out).call hk, (H2.out.call HB.out).call hk⟩
    rw [blk_cell (blk_call HT.out hk)]
    have hlw : i < ksT.length := hi
    simp [List.getD, hlw]
  go_loopw [4, 5] (fun v i wr => ∃ (k : Nat) (xs : List Sg), k ≤ n1 ∧ k ≤ 4 ∧ i = .int .i64 k ∧ xs.length = k ∧ Mid4 xs ∧ OwnG w5.heap.size w5 v xs wr) (fun _ i _ => 4 - (intOf i).toNat)
  case atStart => exact ⟨0, [], by omega, by omega, rfl, rfl, (by unfold Mid4; simp), nilG _ _ _ (Below.refl _ _) (Nat.le_refl _)⟩
  case round =>
    obtain ⟨k, xs, hkn, hk4, rfl, hxl, hmid, hown⟩ := hrel
    have HM := Lib.hid hmid
    have HO := Lib.hid hown
    clear hmid hown
    obtain ⟨⟨x0, x1, x2⟩, hts, hi1, hi2⟩ := KK.out wr HO.out.2.1
    by_cases hc : k < n1 ∧ k < 4
    · obtain ⟨hcn, hc4⟩ := hc
      have d0 : (k : Int) < (n1 : Int) := by omega
      have d1 : (k : Int) < 4 := by omega
      obtain ⟨b1, o1, rfl, hkc⟩ := hi1.2 k hcn
      have HI2 := Lib.hid hi2
      have wk := wi_in (f1 k) 1 (by omega)
      obtain ⟨kn, hkn1⟩ : ∃ kn : Nat, wi (f1 k) 1 = (kn : Int) := ⟨(wi (f1 k) 1).toNat, by omega⟩
      obtain ⟨pv, hpv⟩ : ∃ pv, pv = pickV n2 f2 k := ⟨_, rfl⟩
      have wt := wi_in pv 5 (by omega)
      obtain ⟨tn, htn⟩ : ∃ tn : Nat, wi pv 5 = (tn : Int) := ⟨(wi pv 5).toNat, by omega⟩
      have htn5 : tn ≤ 5 := by omega
      have hkn2 : kn ≤ 1 := by omega
      have htc := hts tn (by omega)
      have HK1 := Lib.hid hkn1
      have HPV := Lib.hid hpv
      have HTN := Lib.hid htn
      clear hts hi1 hi2 wk wt hkn1 hpv htn
      generalize ksT.getD tn default = T at *
      have e1 : (tn : Int) < 6 := by omega
      have KS : Hid (∀ w' : World, Below wr.heap.size wr w' → w'.cell? ⟨w.heap.size, 0, none⟩ = some (.slice (some ⟨b1, o1, none⟩) n1 c1) ∧ w'.cell? ⟨w.heap.size, 1, none⟩ = some (.slice A2 n2 c2) ∧ w'.cell? ⟨b1, o1 + k, none⟩ = some (.int .i64 (f1 k)) ∧ w'.cell? ⟨w.heap.size + 1, tn, none⟩ = some (.string T) ∧ Below wr.heap.size wr w') := by
        intro w' hk
        exact ⟨by rw [hk.cell (World.block_lt_of_cell? _ _ x0)]; exact x0, by rw [hk.cell (World.block_lt_of_cell? _ _ x1)]; exact x1, by rw [hk.cell (World.block_lt_of_cell? _ _ hkc)]; exact hkc, by rw [hk.cell (World.block_lt_of_cell? _ _ htc)]; exact htc, hk⟩
      go_wp2_with fail
      go_region_held3 (fun w' => w'.cell? ⟨w.heap.size, 0, none⟩ = some (.slice (some ⟨b1, o1, none⟩) n1 c1) ∧ w'.cell? ⟨w.heap.size, 1, none⟩ = some (.slice A2 n2 c2) ∧ w'.cell? ⟨b1, o1 + k, none⟩ = some (.int .i64 (f1 k)) ∧ w'.cell? ⟨w.heap.size + 1, tn, none⟩ = some (.string T) ∧ Below wr.heap.size wr w')
        (first | exact KS.out _ ((Below.refl _ _).drew) | exact KS.out _ (((Below.refl _ _).alloc (Nat.le_refl _) _).drew))
        (first
          | (go_at_call_of 27 (f1 k); refine (within_nat _ 1 kn _ (by omega) HK1.out).mono ?_; rintro e w' ⟨rfl, rfl⟩)
          | (go_at_call_of 27 pv; refine (within_nat _ 5 tn _ (by omega) HTN.out).mono ?_; rintro e w' ⟨rfl, rfl⟩)
          | (go_at_call 28; refine (pickV30 _ _ _ _ _ pv _ (HI2.out.call (by first | exact (Below.refl _ _).drew | exact ((Below.refl _ _).alloc (Nat.le_refl _) _).drew)) HPV.out).mono ?_; rintro e w' ⟨rfl, rfl⟩))
      all_goals
        have eb : Hid (xs.length ≤ 1000000000) := by show _ ≤ _; omega
        obtain rfl | rfl : kn = 0 ∨ kn = 1 := by omega
        · have HP : Hid (Mid4 (xs ++ [(0, T)])) := mid_push (by omega)
          have HO9 := Lib.hid (((HO.out.alloc (.cells #[.int .i64 0, .string T] 23 (0, 0))).alloc (.cells #[.int .i64 0, .string T] 23 (0, 0))).drew)
          have HN9 := Lib.hid (blk_new1 wr (.cells #[.int .i64 0, .string T] 23 (0, 0)) (.cells #[.int .i64 0, .string T] 23 (0, 0)))
          go_wp2_with (first | (at_builtin; refine wpList_appG _ rfl (.tmp 48) (.tmp 50) rfl w5.heap.size w5 _ _ rfl HO9.out ?b1 (wr.heap.size + 1) 1 1 [(0, T)] rfl rfl (by omega) HN9.out ?_))
          case b1 => exact eb.out
          intro v4 w4 h4 _ _
          have H4 := Lib.hid h4
          clear h4
          go_wp2_with fail
          go_roundw
          case rel => exact ⟨k + 1, xs ++ [(0, T)], by omega, by omega, by go_num, by simp; omega, HP.out, H4.out⟩
          case measure => simp [intOf]; omega
        · have c48 : (48 + (k : Int)) % 256 = 48 + (k : Int) := by omega
          have hcv := one_text (((wr.alloc (.cells #[.int .i64 1, .string T] 23 (0, 0))).alloc (.cells #[.int .u8 (48 + (k : Int))] 5 (0, 0))).drew) (wr.heap.size + 1) 1 (48 + (k : Int)) (by
            show ((wr.alloc (.cells #[.int .i64 1, .string T] 23 (0, 0))).alloc (.cells #[.int .u8 (48 + (k : Int))] 5 (0, 0))).cell? _ = _
            rw [blk_cell (blk_new1 _ _ _)]; rfl)
          have hDz : (st [48 + (k : Int)]).size = 1 := by rw [st_size]; rfl
          have HP : Hid (Mid4 (xs ++ [(1, ⟨#[112]⟩ ++ st [48 + (k : Int)])])) := mid_push (by omega)
          generalize st [48 + (k : Int)] = D at *
          have n9 : ¬ 9223372036854775807 < 1 + D.size := by omega
          have HO9 := Lib.hid ((((HO.out.alloc (.cells #[.int .i64 1, .string (⟨#[112]⟩ ++ D)] 23 (0, 0))).alloc (.cells #[.int .u8 (48 + (k : Int))] 5 (0, 0))).alloc (.cells #[.int .i64 1, .string (⟨#[112]⟩ ++ D)] 23 (0, 0))).drew)
          have HN9 : Hid ((((wr.alloc (.cells #[.int .i64 1, .string (⟨#[112]⟩ ++ D)] 23 (0, 0))).alloc (.cells #[.int .u8 (48 + (k : Int))] 5 (0, 0))).alloc (.cells #[.int .i64 1, .string (⟨#[112]⟩ ++ D)] 23 (0, 0))).heap[wr.heap.size + 1 + 1]? = some (.cells #[.int .i64 1, .string (⟨#[112]⟩ ++ D)] 23 (0, 0))) := by
            have := blk_new1 (wr.alloc (.cells #[.int .i64 1, .string (⟨#[112]⟩ ++ D)] 23 (0, 0))) (.cells #[.int .u8 (48 + (k : Int))] 5 (0, 0)) (.cells #[.int .i64 1, .string (⟨#[112]⟩ ++ D)] 23 (0, 0))
            have hz : (wr.alloc (.cells #[.int .i64 1, .string (⟨#[112]⟩ ++ D)] 23 (0, 0))).heap.size + 1 = wr.heap.size + 1 + 1 := by simp
            rw [hz] at this
            exact this
          go_wp2_with (first | (at_builtin; refine wpList_appG _ rfl (.tmp 48) (.tmp 50) rfl w5.heap.size w5 _ _ rfl HO9.out ?b1 (wr.heap.size + 1 + 1) 1 1 [(1, (⟨#[112]⟩ : ByteArray) ++ D)] rfl rfl (by omega) HN9.out ?_))
          case b1 => exact eb.out
          intro v4 w4 h4 _ _
          have H4 := Lib.hid h4
          clear h4
          go_wp2_with fail
          go_roundw
          case rel => exact ⟨k + 1, xs ++ [(1, (⟨#[112]⟩ : ByteArray) ++ D)], by omega, by omega, by go_num, by simp; omega, HP.out, H4.out⟩
          case measure => simp [intOf]; omega
    · have hxx : (¬ (k : Int) < (n1 : Int)) ∨ ((k : Int) < (n1 : Int) ∧ ¬ (k : Int) < 4) := by omega
      have wk := wi_in last 5 (by omega)
      obtain ⟨ln, hln⟩ : ∃ ln : Nat, wi last 5 = (ln : Int) := ⟨(wi last 5).toNat, by omega⟩
      have HL := Lib.hid hln
      have HBr := Lib.hid (HB.out.trans (HO.out.2.1.mono HB.out.size))
      have hln5 : ln ≤ 5 := by omega
      have eb : Hid (xs.length ≤ 1000000000) := by show _ ≤ _; omega
      have HKM := Lib.hid (mid_keep HM.out)
      have HKL := Lib.hid (fun n => mid_last HM.out n)
      obtain ⟨A4, n4, c4, hv4⟩ := HO.out.gs.shape
      subst hv4
      clear hts hi1 hi2 wk hln hc
      by_cases h23 : ln = 2 ∨ ln = 3
      · have HO9 := Lib.hid (HO.out.alloc (.cells #[.int .i64 ln, .string lastT] 23 (0, 0)))
        rcases hxx with c0 | ⟨c0, c5⟩
        all_goals
          rcases h23 with rfl | rfl
          all_goals
            go_wp2_with (first | (go_at_call 27; refine (within_nat _ 5 _ _ (by omega) HL.out).mono ?_; rintro e w' ⟨rfl, hww⟩; subst hww) | (at_builtin; refine wpList_appG _ rfl (.tmp 61) (.tmp 64) rfl w5.heap.size w5 _ xs rfl HO9.out ?b1 _ 1 1 [(_, lastT)] rfl rfl (by omega) (heap_alloc_new _ _) ?_))
            case b1 => exact eb.out
            intro v4 w4 h4 _ _
            have H4 := Lib.hid h4
            obtain ⟨A6, n6, c6, hv6⟩ := h4.gs.shape
            subst hv6
            clear h4
            go_wp2
            go_ret
            exact ⟨_, _, rfl, H4.out.gt, HKL.out _ (by omega), HB.out.trans (H4.out.2.1.mono HB.out.size)⟩
      · have q2 : ((ln : Int) == 2) = false := by simp; omega
        have q3 : ((ln : Int) == 3) = false := by simp; omega
        rcases hxx with c0 | ⟨c0, c5⟩
        all_goals
          go_wp2_with (first | (go_at_call 27; refine (within_nat _ 5 _ _ (by omega) HL.out).mono ?_; rintro e w' ⟨rfl, hww⟩; subst hww))
          go_ret
          exact ⟨_, xs, rfl, HO.out.gt, HKM.out, HBr.out⟩
end Go.Proofs.Ytgiepgbjkkhniaa
