/-
  The law TrapCatches, walked: it returns true, and what was there stays as it was.
-/
import Derived.Test.YtnbkgpkgfolakaaCaught
import Derived.Test.YtnbkgpkgfolakaaBook
import Derived.Deep.RegionHeld3
import Derived.Deep.DeepCutAuto
import Derived.Deep.DrawnRows
namespace Go.Proofs.Ytnbkgpkgfolakaa
open Go.RowKit

/-- behind the first statement: e and n lie in blocks of their own -/
def C1 (er at_ : Int) (cut : ByteArray) (w : World) (s9 s10 : Value) (wx : World) : Prop :=
  ∃ E N, s9 = .pointer (some ⟨E, 0, none⟩) ∧ s10 = .pointer (some ⟨N, 0, none⟩) ∧ wx.heap[E]? = some (.cells #[.int .i64 (wi er 9)] 22 (0, 0)) ∧ wx.heap[N]? = some (.cells #[.string cut] 9 (0, 0)) ∧
    wx.heap[w.heap.size]? = some (.cells #[.int .i64 at_] 3 (0, 0)) ∧ w.heap.size < E ∧ w.heap.size < N ∧ Below w.heap.size w wx

theorem asize (w : World) (o : Obj) : (w.alloc o).heap.size = w.heap.size + 1 := by simp
theorem c1_a (er at_ : Int) (cut : ByteArray) (w : World) : C1 er at_ cut w (.pointer (some ⟨w.heap.size + 1, 0, none⟩)) (.pointer (some ⟨w.heap.size + 1 + 1, 0, none⟩)) (((w.alloc (.cells #[.int .i64 at_] 3)).alloc (.cells #[.int .i64 (wi er 9)] 22)).alloc (.cells #[.string cut] 9)).drew := by
  refine ⟨_, _, rfl, rfl, ?_, ?_, ?_, by omega, by omega, ?_⟩
  · have := blk_alloc (blk_new (w.alloc (.cells #[.int .i64 at_] 3)) (.cells #[.int .i64 (wi er 9)] 22)) (.cells #[.string cut] 9)
    simp only [asize] at this
    exact this
  · have := blk_new ((w.alloc (.cells #[.int .i64 at_] 3)).alloc (.cells #[.int .i64 (wi er 9)] 22)) (.cells #[.string cut] 9)
    simp only [asize] at this
    exact this
  · exact blk_alloc (blk_alloc (blk_new w (.cells #[.int .i64 at_] 3)) _) _
  · exact ((((Below.refl _ _).alloc (Nat.le_refl _) _).alloc (by simp) _).alloc (by simp; omega) _).drew
theorem c1_b (er at_ : Int) (cut : ByteArray) (w : World) : C1 er at_ cut w (.pointer (some ⟨w.heap.size + 1 + 1, 0, none⟩)) (.pointer (some ⟨w.heap.size + 1, 0, none⟩)) (((w.alloc (.cells #[.int .i64 at_] 3)).alloc (.cells #[.string cut] 9)).alloc (.cells #[.int .i64 (wi er 9)] 22)).drew := by
  refine ⟨_, _, rfl, rfl, ?_, ?_, ?_, by omega, by omega, ?_⟩
  · have := blk_new ((w.alloc (.cells #[.int .i64 at_] 3)).alloc (.cells #[.string cut] 9)) (.cells #[.int .i64 (wi er 9)] 22)
    simp only [asize] at this
    exact this
  · have := blk_alloc (blk_new (w.alloc (.cells #[.int .i64 at_] 3)) (.cells #[.string cut] 9)) (.cells #[.int .i64 (wi er 9)] 22)
    simp only [asize] at this
    exact this
  · exact blk_alloc (blk_alloc (blk_new w (.cells #[.int .i64 at_] 3)) _) _
  · exact ((((Below.refl _ _).alloc (Nat.le_refl _) _).alloc (by simp) _).alloc (by simp; omega) _).drew

theorem down_get (d m : Nat) (h : m ≤ d) : (down d)[m]? = some (.int .i64 ((d : Int) - (m : Int))) := by
  induction d generalizing m with
  | zero => obtain rfl : m = 0 := by omega
            rfl
  | succ d ih =>
    cases m with
    | zero => simp [down]
    | succ m =>
      simp only [down, List.getElem?_cons_succ]
      rw [ih m (by omega)]
      congr 2
      omega
theorem down_take (d m : Nat) (h : m ≤ d) : (down d).take m ++ [.int .i64 ((d : Int) - (m : Int))] = (down d).take (m + 1) := by
  rw [List.take_add_one, down_get d m h]
  rfl
theorem down_all (d : Nat) : (down d).take (d + 1) = down d := List.take_of_length_le (by rw [down_length]; omega)

/-- the loop's relation: want holds the first m -/
def Want (B d Q : Nat) (w5 : World) (s15 s16 : Value) (wr : World) : Prop :=
  ∃ q m c : Nat, m ≤ d + 1 ∧ s15 = .slice (some ⟨q, 0, none⟩) m c ∧ s16 = .int .i64 ((d : Int) - (m : Int)) ∧ wr.ownsRow B 3 1 (.slice (some ⟨q, 0, none⟩) m c) m ((down d).take m) ∧
    (q = Q ∨ w5.heap.size ≤ q) ∧ Kp (fun k => k = Q) w5 wr

/-- the cells that the last statement reads -/
abbrev FinS (X E N A Y Z L : Nat) (e at_ : Int) (cut : ByteArray) (lg : Value) (w : World) : Prop :=
  w.cell? ⟨X, 0, none⟩ = some (.int .i64 e) ∧ w.cell? ⟨X, 1, none⟩ = some (.string cut) ∧ w.cell? ⟨X, 2, none⟩ = some (.int .i64 at_) ∧ w.cell? ⟨E, 0, none⟩ = some (.int .i64 e) ∧ w.cell? ⟨N, 0, none⟩ = some (.string cut) ∧ w.cell? ⟨A, 0, none⟩ = some (.int .i64 at_) ∧
  w.cell? ⟨Y, 0, none⟩ = some (.int .i64 0) ∧ w.cell? ⟨Y, 1, none⟩ = some (.string ⟨#[]⟩) ∧ w.cell? ⟨Y, 2, none⟩ = some (.int .i64 0) ∧
  w.cell? ⟨Z, 0, none⟩ = some (.int .i64 0) ∧ w.cell? ⟨Z, 1, none⟩ = some (.string ⟨#[]⟩) ∧ w.cell? ⟨Z, 2, none⟩ = some (.int .i64 0) ∧ w.cell? ⟨L, 0, none⟩ = some lg

theorem Kp.drewN {S : Nat → Prop} {a w : World} (h : Kp S a w) (n : Nat) : Kp S a (w.drewN n) := ⟨h.os, h.tape, h.output, h.size, h.block⟩

/-- append's law at a step of a region that draws its order, guarded or not -/
theorem step_log {ops : Array Oper} {o : Oper} {a : Act} {K : Act → World → Prop} {Q : Exit → Act → World → Prop} {F : Prop} (w : World) (hw : Region.wanted o (yielded ops a.tmps) = true) (s x : Operand)
    (ho : o.op = .call { callee := .builtin .append, args := #[s, x], argTypes := #[31, 31] })
    (B g n cap : Nat) (xs : List Value) (hs : a.eval s = .slice (some ⟨g, 0, none⟩) n cap) (hown : w.ownsRow B 3 1 (.slice (some ⟨g, 0, none⟩) n cap) n xs) (hn : n ≤ 1000) (hB : B ≤ w.heap.size)
    (b m c : Nat) (news : Array Value) (hx : a.eval x = .slice (some ⟨b, 0, none⟩) m c) (hm : news.size = m) (hm0 : 0 < m) (hm1 : m ≤ 10) (hb : w.heap[b]? = some (.cells news 3 (0, 0))) (h1 : ∀ u ∈ news.toList, u.oneCell' = true)
    (H : Nat) (hH : w.heap.size = H)
    (h : ∀ g' cap' w', w'.ownsRow B 3 1 (.slice (some ⟨g', 0, none⟩) (n + m) cap') (n + m) (xs ++ news.toList) → w.grownBy w' (some g) → (g' = g ∨ g' = H) → g' < w'.heap.size → K (a.put o.dst (.slice (some ⟨g', 0, none⟩) (n + m) cap')) w') :
    if Region.wanted o (yielded ops a.tmps) = true then Oper.wp Try.prog o a w K Q else F := by
  rw [if_pos hw]
  obtain ⟨i0, hi, hz0, hz1, hz2⟩ := info_parts info3
  refine wp_append_lies w s x 31 ho B 3 i0 (.int .i64 0) 1 8 Try.underlying31 hi hz0 hz1 hz2 rfl (by omega) _ n xs hs hown ⟨b, 0, none⟩ m c news.toList hx (by simp [hm]) (World.news_of_block hb) h1 hm0 (by unfold maxLen; omega) (by omega) hB H hH ?_
  intro g' cap' w' h2 h3 h4 h5
  exact h g' cap' w' h2 h3 (by rcases h4 with h4 | h4; · left; simpa [Value.ownBlock] using h4.symm
                               · exact Or.inr h4) h5

theorem ints_down (d : Nat) : Ints (down d ++ [.int .i64 (-5)]) := by
  have h : Ints (down d) := by
    induction d with
    | zero => intro u hu; simp [down] at hu; exact ⟨0, hu⟩
    | succ d ih =>
      intro u hu
      simp only [down, List.mem_cons] at hu
      rcases hu with rfl | hu
      · exact ⟨_, rfl⟩
      · exact ih u hu
  intro u hu
  simp only [List.mem_append, List.mem_singleton] at hu
  rcases hu with hu | rfl
  · exact h u hu
  · exact ⟨-5, rfl⟩

set_option maxHeartbeats 1000000 in
set_option maxRecDepth 100000 in
theorem catches_any (er at_ deep : Int) (note cut : ByteArray) (w : World) (k d : Nat) (hif : (if (20 : Int) < (note.size : Int) then (20 : Int) else (note.size : Int)) = (k : Int)) (hk0 : (0 : Int) ≤ (k : Int)) (hk1 : (k : Int) ≤ (note.size : Int)) (_hk2 : k ≤ note.size)
    (hcut : Hid (note.extract 0 k = cut)) (hd : Hid (wi deep 20 = (d : Int))) (hd20 : d ≤ 20) :
    Calls Try.prog 4 #[.int .i64 er, .string note, .int .i64 at_, .int .i64 deep] w fun e w' => e = .returned (.bool true) ∧ Below w.heap.size w w' := by
  go_enter Try.func4, Try.ntmps4
  go_upto_region 1 with fail
  go_cut [9, 10] (C1 er at_ cut w)
  case first =>
    go_region_held3 (fun _ => True) (trivial) (first | (go_at_call 12; refine (within_any _ _ _ (by omega) (by omega)).mono ?_; rintro e w' ⟨rfl, rfl⟩))
    all_goals
      go_wp2_with fail
      go_meet
      rw [hcut.out]
      first
        | exact c1_a er at_ cut w
        | exact c1_b er at_ cut w
  case rest =>
    obtain ⟨E, N, rfl, rfl, bE, bN, bA, lE, lN, hB⟩ := hcut
    clear hif hk0 hk1 _hk2
    have GE := Lib.hid bE
    have GN := Lib.hid bN
    have GA := Lib.hid bA
    have HE := Lib.hid bE
    have HN := Lib.hid bN
    have HA := Lib.hid bA
    have HB := Lib.hid hB
    clear bE bN bA hB
    go_wp2_with fail
    refine (within_any _ _ _ (by omega) (by omega)).mono ?_
    rintro e w' ⟨rfl, rfl⟩
    rw [hd.out]
    go_wp2_with fail
    have HL : Hid (LogAt (wc.heap.size + 1 + 1) w.heap.size (wc.heap.size + 1) 0 0 [] (((wc.alloc (.cells #[.int .i64 ↑d] 3)).alloc (.cells #[] 3)).alloc (.cells #[.slice (some ⟨wc.heap.size + 1, 0, none⟩) 0 0] 31))) := by
      have hs := HB.out.size
      refine ⟨?_, ⟨by simp, Or.inr ⟨wc.heap.size + 1, 0, #[], rfl, by omega, ?_, by omega, by unfold maxLen; omega, by simp, by simp⟩⟩, by omega, by omega⟩
      · simpa using blk_new ((wc.alloc (.cells #[.int .i64 ↑d] 3)).alloc (.cells #[] 3)) (.cells #[.slice (some ⟨wc.heap.size + 1, 0, none⟩) 0 0] 31)
      · simpa using blk_alloc (blk_new (wc.alloc (.cells #[.int .i64 ↑d] 3)) (.cells #[] 3)) (.cells #[.slice (some ⟨wc.heap.size + 1, 0, none⟩) 0 0] 31)
    have HD : Hid ((((wc.alloc (.cells #[.int .i64 ↑d] 3)).alloc (.cells #[] 3)).alloc (.cells #[.slice (some ⟨wc.heap.size + 1, 0, none⟩) 0 0] 31)).heap[wc.heap.size]? = some (.cells #[.int .i64 ↑d] 3 (0, 0))) := blk_alloc (blk_alloc (blk_new _ _) _) _
    have HE := Lib.hid (blk_alloc (blk_alloc (blk_alloc HE.out (.cells #[.int .i64 ↑d] 3)) (.cells #[] 3)) (.cells #[.slice (some ⟨wc.heap.size + 1, 0, none⟩) 0 0] 31))
    have HN := Lib.hid (blk_alloc (blk_alloc (blk_alloc HN.out (.cells #[.int .i64 ↑d] 3)) (.cells #[] 3)) (.cells #[.slice (some ⟨wc.heap.size + 1, 0, none⟩) 0 0] 31))
    have HA := Lib.hid (blk_alloc (blk_alloc (blk_alloc HA.out (.cells #[.int .i64 ↑d] 3)) (.cells #[] 3)) (.cells #[.slice (some ⟨wc.heap.size + 1, 0, none⟩) 0 0] 31))
    refine (run13 _ _ _ _ _ w.heap.size _ 0 0 d [] _ _ _ _ HL.out hd20 (by omega) HD.out HE.out HN.out HA.out).mono ?_
    rintro e w1 ⟨rfl, hl⟩
    obtain ⟨g1, cap1, hl1, hk1, hg1⟩ := hl
    simp only [Nat.zero_add, List.nil_append] at hl1
    obtain ⟨F1, F2, F3, F4, F5, F6, F7⟩ : (w1.heap[E]? = some (.cells #[.int .i64 (wi er 9)] 22 (0, 0))) ∧ (w1.heap[N]? = some (.cells #[.string cut] 9 (0, 0))) ∧ (w1.heap[w.heap.size]? = some (.cells #[.int .i64 at_] 3 (0, 0))) ∧
        (w1.heap[wc.heap.size]? = some (.cells #[.int .i64 ↑d] 3 (0, 0))) ∧ Below w.heap.size w w1 ∧ wc.heap.size + 1 + 1 < w1.heap.size ∧ (E < wc.heap.size ∧ N < wc.heap.size ∧ w.heap.size < wc.heap.size) := by
      have e1 := blk_lt HE.out
      have e2 := blk_lt HN.out
      have e3 := HB.out.size
      have e4 := hk1.size
      simp at e1 e2 e4
      have e5 : E < wc.heap.size ∧ N < wc.heap.size ∧ w.heap.size < wc.heap.size := ⟨blk_lt GE.out, blk_lt GN.out, blk_lt GA.out⟩
      obtain ⟨e5, e6, e7⟩ := e5
      refine ⟨(hk1.block E (by simp; omega) (by omega)).trans HE.out, (hk1.block N (by simp; omega) (by omega)).trans HN.out, (hk1.block _ (by simp; omega) (by omega)).trans HA.out, (hk1.block _ (by simp; omega) (by omega)).trans HD.out, ?_, by omega, e5, e6, e7⟩
      exact (((HB.out.alloc e3 _).alloc (by simp; omega) _).alloc (by simp; omega) _).trans (hk1.below (by simp; omega) (fun k hk => by omega))
    have hg2 : g1 = wc.heap.size + 1 ∨ wc.heap.size + 3 ≤ g1 := by simpa using hg1
    clear hk1 hg1 HE HN HA HD HB HL GE GN GA hd
    generalize wc.heap.size = D at *
    obtain ⟨H1, H2, H3, H4, H5, H6⟩ := And.intro (Lib.hid F1) (And.intro (Lib.hid F2) (And.intro (Lib.hid F3) (And.intro (Lib.hid F5) (And.intro (Lib.hid hl1) (Lib.hid hg2)))))
    have cD : w1.cell? ⟨D, 0, none⟩ = some (.int .i64 ↑d) := blk_cell F4 0
    have hX : D < w1.heap.size := by omega
    clear F1 F2 F3 F4 F5 hl1 hg2
    go_wp2_with fail
    go_loopw [15, 16] (Want w.heap.size d (w1.heap.size + 1) ((w1.alloc (.cells #[.int .i64 (wi er 9), .string cut, .int .i64 at_] 24)).alloc (.cells #[] 3))) (fun _ i _ => (intOf i + 1).toNat)
    case atStart =>
      refine ⟨w1.heap.size + 1, 0, 0, by omega, rfl, by simp, ⟨by simp, Or.inr ⟨w1.heap.size + 1, 0, #[], rfl, ?_, ?_, by omega, by unfold maxLen; omega, by simp, by simp⟩⟩, Or.inl rfl, Kp.refl _ _⟩
      · have := H4.out.size; omega
      · simpa using blk_new (w1.alloc (.cells #[.int .i64 (wi er 9), .string cut, .int .i64 at_] 24)) (.cells #[] 3)
    case round =>
      obtain ⟨q, m, c, hm, rfl, rfl, hown, hq, hk⟩ := hrel
      have hsz := H4.out.size
      have hsz2 := hk.size
      simp at hsz2
      have HO := Lib.hid hown
      have HK := Lib.hid hk
      have HQ := Lib.hid hq
      clear hown hk hq
      by_cases hlt : m ≤ d
      · have t0 : (0 : Int) ≤ (d : Int) - (m : Int) := by omega
        have t1 : decide ((0 : Int) ≤ (d : Int) - (m : Int)) = true := by simpa using t0
        go_wp2_with (at_builtin; refine wpList_log _ rfl (.tmp 42) (.tmp 44) rfl w.heap.size q m c _ (by rfl) (HO.out.alloc _) (by omega) (by simp; omega) wr.heap.size 1 1 #[.int .i64 ((d : Int) - (m : Int))] (by rfl) rfl (by omega) (by omega) (blk_new _ _) (by simp [Value.oneCell']) (wr.heap.size + 1) (by simp) ?_)
        intro g' cap' wn hown hgrow hat hlt2
        have HW : Hid (Want w.heap.size d (w1.heap.size + 1) ((w1.alloc (.cells #[.int .i64 (wi er 9), .string cut, .int .i64 at_] 24)).alloc (.cells #[] 3)) (.slice (some ⟨g', 0, none⟩) (m + 1) cap') (.int .i64 ((d : Int) - (m : Int) - 1)) wn) := by
          have hq := HQ.out
          simp at hq
          refine ⟨g', m + 1, cap', by omega, rfl, by congr 1; omega, by rw [← down_take d m hlt]; exact hown, by simp; omega, ?_⟩
          exact (HK.out.alloc _).grown hgrow (fun k hk e => by simp at hk e; omega)
        clear hown hgrow hat hlt2
        go_wp2_with fail
        go_roundw
        case rel => exact HW.out
        case measure => simp [intOf]; omega
      · obtain rfl : m = d + 1 := by omega
        have t0 : ¬ (0 : Int) ≤ (d : Int) - ((d + 1 : Nat) : Int) := by omega
        have t1 : decide ((0 : Int) ≤ (d : Int) - ((d + 1 : Nat) : Int)) = false := by simpa using t0
        go_wp2_with fail
        obtain ⟨F1, F2, F3, F4, F5, F6⟩ : (wr.heap[E]? = some (.cells #[.int .i64 (wi er 9)] 22 (0, 0))) ∧ (wr.heap[N]? = some (.cells #[.string cut] 9 (0, 0))) ∧ (wr.heap[w.heap.size]? = some (.cells #[.int .i64 at_] 3 (0, 0))) ∧
            (wr.heap[w1.heap.size]? = some (.cells #[.int .i64 (wi er 9), .string cut, .int .i64 at_] 24 (0, 0))) ∧ Below w.heap.size w wr ∧ LogAt (D + 1 + 1) w.heap.size g1 (d + 1) cap1 (down d) wr := by
          have hg := H5.out.lt
          have hL := blk_lt H5.out.var
          have k5 := HK.out
          have l5 : LogAt (D + 1 + 1) w.heap.size g1 (d + 1) cap1 (down d) ((w1.alloc (.cells #[.int .i64 (wi er 9), .string cut, .int .i64 at_] 24)).alloc (.cells #[] 3)) := H5.out.kp (((Kp.refl (fun _ => False) w1).alloc _).alloc _) (fun t => t) (fun t => t)
          refine ⟨(k5.block E (by simp; omega) (by omega)).trans (blk_alloc (blk_alloc H1.out _) _), (k5.block N (by simp; omega) (by omega)).trans (blk_alloc (blk_alloc H2.out _) _), (k5.block _ (by simp; omega) (by omega)).trans (blk_alloc (blk_alloc H3.out _) _), (k5.block _ (by simp; omega) (by omega)).trans (blk_alloc (blk_new _ _) _), ?_, l5.kp k5 (by omega) (by omega)⟩
          exact ((H4.out.alloc hsz _).alloc (by simp; omega) _).trans (k5.below (by simp; omega) (fun k hk => by omega))
        refine (run15 _ _ _ _ _ _ _ F6 (by omega)).mono ?_
        rintro e w7 ⟨rfl, hl7⟩
        obtain ⟨g7, cap7, l7, k7, hg7⟩ := hl7
        obtain ⟨P1, P2, P3, P4, P5, P6, P7⟩ : (w7.heap[E]? = some (.cells #[.int .i64 (wi er 9)] 22 (0, 0))) ∧ (w7.heap[N]? = some (.cells #[.string cut] 9 (0, 0))) ∧ (w7.heap[w.heap.size]? = some (.cells #[.int .i64 at_] 3 (0, 0))) ∧
            (w7.heap[w1.heap.size]? = some (.cells #[.int .i64 (wi er 9), .string cut, .int .i64 at_] 24 (0, 0))) ∧ Below w.heap.size w w7 ∧ w7.ownsRow w.heap.size 3 1 (.slice (some ⟨q, 0, none⟩) (d + 1) c) (d + 1) (down d) ∧ (g7 ≠ q ∧ w1.heap.size < q ∧ q < w7.heap.size) := by
          have hg := H5.out.lt
          have hL := blk_lt H5.out.var
          have hq := HQ.out
          have h6 := H6.out
          have hql := (HO.out.lt q rfl).2
          have hown := HO.out
          rw [down_all] at hown
          simp at hq
          refine ⟨(k7.block E (blk_lt F1) (by omega)).trans F1, (k7.block N (blk_lt F2) (by omega)).trans F2, (k7.block _ (blk_lt F3) (by omega)).trans F3, (k7.block _ (blk_lt F4) (by omega)).trans F4, ?_, owns_block hown (k7.block q hql (by omega)), by omega, by omega, by have := k7.size; omega⟩
          exact F5.trans (k7.below F5.size (fun k hk => by omega))
        have hs7 := P5.size
        obtain ⟨P7, P8, P9⟩ := P7
        have HQ7 : Hid (w.heap.size < q) := by
          have := F7.2.2
          show w.heap.size < q
          omega
        have HQ9 : Hid (w1.heap.size ≠ q ∧ E ≠ q ∧ N ≠ q ∧ w.heap.size ≠ q ∧ D + 1 + 1 ≠ q) := by
          have := F7.1
          have := F7.2.1
          have := F7.2.2
          refine ⟨?_, ?_, ?_, ?_, ?_⟩ <;> omega
        obtain ⟨G1, G2, G3, G4, G5, G6, G7⟩ := And.intro (Lib.hid P1) (And.intro (Lib.hid P2) (And.intro (Lib.hid P3) (And.intro (Lib.hid P4) (And.intro (Lib.hid P5) (And.intro (Lib.hid P6) (Lib.hid l7))))))
        clear F1 F2 F3 F4 F5 F6 P1 P2 P3 P4 P5 P6 l7 k7 hg7 HO HK HQ H1 H2 H3 H4 H5 H6 t0 hsz hsz2 hlt hm cD hX F7
        go_wp2_with fail
        refine (run_nil _).mono ?_
        rintro e w9 ⟨rfl, hb9⟩
        have hs9 : w7.heap.size + 1 ≤ w9.heap.size := by simpa using hb9.size
        have Y := hb9.block w7.heap.size (by simp)
        rw [blk_new] at Y
        obtain ⟨Q1, Q2, Q3, Q4, Q5, Q6, Q7⟩ : (w9.heap[E]? = some (.cells #[.int .i64 (wi er 9)] 22 (0, 0))) ∧ (w9.heap[N]? = some (.cells #[.string cut] 9 (0, 0))) ∧ (w9.heap[w.heap.size]? = some (.cells #[.int .i64 at_] 3 (0, 0))) ∧
            (w9.heap[w1.heap.size]? = some (.cells #[.int .i64 (wi er 9), .string cut, .int .i64 at_] 24 (0, 0))) ∧ Below w.heap.size w w9 ∧ w9.ownsRow w.heap.size 3 1 (.slice (some ⟨q, 0, none⟩) (d + 1) c) (d + 1) (down d) ∧ LogAt (D + 1 + 1) w.heap.size g7 (d + 1 + 1) cap7 (down d ++ [Value.int IntKind.i64 (-5)]) w9 := by
          have k9 : Kp (fun _ => False) w7 w9 := ((Kp.refl _ w7).alloc _).trans (Kp.of_below hb9 (fun _ => False)) (fun _ _ t => t)
          have b : ∀ {i : Nat} {o : Obj}, w7.heap[i]? = some o → w9.heap[i]? = some o := fun h => (k9.block _ (blk_lt h) (fun t => t)).trans h
          exact ⟨b G1.out, b G2.out, b G3.out, b G4.out, G5.out.trans (k9.below hs7 (fun _ _ t => t)), owns_block G6.out (k9.block q (G6.out.lt q rfl).2 (fun t => t)), G7.out.kp k9 (fun t => t) (fun t => t)⟩
        clear hb9
        generalize hXX : w1.heap.size = X at *
        generalize hYY : w7.heap.size = Y0 at *
        clear hXX hYY
        have hs0 := Q5.size
        have HQ8 : Hid (X ≠ q ∧ Y0 ≠ q ∧ w9.heap.size ≠ q ∧ E ≠ q ∧ N ≠ q ∧ w.heap.size ≠ q ∧ D + 1 + 1 ≠ q) := by
          obtain ⟨a1, a2, a3, a4, a5⟩ := HQ9.out
          exact ⟨a1, by omega, by omega, a2, a3, a4, a5⟩
        obtain ⟨KX, KE, KN, KA, KY, KL⟩ := And.intro (Lib.hid Q4) (And.intro (Lib.hid Q1) (And.intro (Lib.hid Q2) (And.intro (Lib.hid Q3) (And.intro (Lib.hid Y) (Lib.hid Q7)))))
        obtain ⟨KW, KB⟩ := And.intro (Lib.hid Q6) (Lib.hid Q5)
        have e10 := blk_new w9 (.cells #[.int .i64 0, .string ⟨#[]⟩, .int .i64 0] 24)
        have z10 : (w9.alloc (.cells #[.int .i64 0, .string ⟨#[]⟩, .int .i64 0] 24)).heap.size = w9.heap.size + 1 := by simp
        have k10 : Kp (fun _ => False) w9 (w9.alloc (.cells #[.int .i64 0, .string ⟨#[]⟩, .int .i64 0] 24)) := (Kp.refl _ _).alloc _
        clear Q1 Q2 Q3 Q4 Q5 Q6 Q7 Y G1 G2 G3 G4 G5 G6 G7
        go_upto_region 12 with fail
        generalize (w9.alloc (.cells #[.int .i64 0, .string ⟨#[]⟩, .int .i64 0] 24)) = w10 at *
        have b : ∀ {i : Nat} {o : Obj}, w9.heap[i]? = some o → w10.heap[i]? = some o := fun h => (k10.block _ (blk_lt h) (fun t => t)).trans h
        have S1 : Hid (∀ w' : World, Kp (fun k => k = q) w10 w' → FinS X E N w.heap.size Y0 w9.heap.size (D + 1 + 1) (wi er 9) at_ cut (.slice (some ⟨g7, 0, none⟩) (d + 1 + 1) cap7) w' ∧ Kp (fun k => k = q) w10 w') := by
          intro w' hk
          obtain ⟨n1, n2, n3, n4, n5, n6, n7⟩ := HQ8.out
          have p : ∀ {i : Nat} {o : Obj}, w10.heap[i]? = some o → i ≠ q → w'.heap[i]? = some o := fun h hn => (hk.block _ (blk_lt h) hn).trans h
          have x := p (b KX.out) n1
          have y := p (b KY.out) n2
          have z := p e10 n3
          exact ⟨⟨blk_cell x 0, blk_cell x 1, blk_cell x 2, blk_cell (p (b KE.out) n4) 0, blk_cell (p (b KN.out) n5) 0, blk_cell (p (b KA.out) n6) 0, blk_cell y 0, blk_cell y 1, blk_cell y 2, blk_cell z 0, blk_cell z 1, blk_cell z 2, blk_cell (p (b KL.out.var) n7) 0⟩, hk⟩
        have W10 := Lib.hid (owns_block KW.out (k10.block q (KW.out.lt q rfl).2 (fun t => t)))
        have L10 := Lib.hid (KL.out.kp k10 (fun t => t) (fun t => t))
        have B10 := Lib.hid (KB.out.trans (k10.below hs0 (fun _ _ t => t)))
        have hq10 : q < w10.heap.size := (W10.out.lt q rfl).2
        have hs10 := k10.size
        clear b e10 z10 k10 KX KE KN KA KY KL KW KB
        have hds := ints_down d
        have HI := Lib.hid hds
        clear hds
        go_region_held3 (fun w' => FinS X E N w.heap.size Y0 w9.heap.size (D + 1 + 1) (wi er 9) at_ cut (.slice (some ⟨g7, 0, none⟩) (d + 1 + 1) cap7) w' ∧ Kp (fun k => k = q) w10 w')
          (first | exact S1.out _ ((Kp.refl _ _).drew) | exact S1.out _ (((Kp.refl _ _).alloc _).drew) | exact S1.out _ hkw.out | exact S1.out _ hkt.out)
          (first
            | (refine step_log _ (by rfl) _ _ (by rfl) w.heap.size q (d + 1) c (down d) (by rfl) ((W10.out.alloc _).drew) (by omega) (by simp; omega) w10.heap.size 1 1 #[.int .i64 (-5)] (by rfl) rfl (by omega) (by omega) (heap_alloc_new w10 _) (by simp [Value.oneCell']) (w10.heap.size + 1) (by simp) ?_
               intro g' cap' wa hown hgrow hat hlt
               have hkw : Hid (Kp (fun k => k = q) w10 wa) := (((Kp.refl _ w10).alloc _).drew).grown hgrow (fun k hk e => by simpa using e.symm)
               have hown := Lib.hid hown
               clear hgrow hat hlt)
            | (go_at_call 16
               refine (same_own _ _ _ _ _ _ _ _ _ (by omega) HI.out (owns_block L10.out.own (hkw.out.block g7 L10.out.lt P7)) hown.out).mono ?_
               rintro e w' ⟨rfl, kk, rfl⟩
               have hkw := Lib.hid (hkw.out.drewN kk))
            | (go_at_call 3
               refine (trapRuns_any _).mono ?_
               rintro e wt ⟨rfl, hbt⟩
               have hkt : Hid (Kp (fun k => k = q) w10 wt) := hkw.out.trans (Kp.of_below hbt _) (fun _ _ t => t)))
        go_wp2_with fail
        go_ret
        exact ⟨rfl, B10.out.trans (hkt.out.below B10.out.size (fun k hk t => by have := HQ7.out; omega))⟩
end Go.Proofs.Ytnbkgpkgfolakaa
