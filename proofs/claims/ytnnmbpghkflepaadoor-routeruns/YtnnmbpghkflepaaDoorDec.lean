/-
  pct.Decode.
-/
import Derived.Test.YtnnmbpghkflepaaDoorEnc
namespace Go.Proofs.YtnnmbpghkflepaaDoor
open Go.RowKit Go.PlainAid
set_option maxRecDepth 100000

theorem bt_tail (s : ByteArray) (k j : Nat) : bt (s.extract k s.size) j = bt s (k + j) := by
  rw [← bs_at, ← bs_at, bs_tail]
  simp [List.getD]
theorem tail_size (s : ByteArray) (k : Nat) : (s.extract k s.size).size = s.size - k := by
  rw [← bs_len, bs_tail, List.length_drop, bs_len]

/-- what the next byte does -/
theorem nx_cases (s : ByteArray) (k : Nat) (hk : k < s.size) :
    (nxN (s.extract k s.size) = 0 ∧ nxC (s.extract k s.size) = 0 ∧ decL ((bs s).drop k) = none) ∨
    ∃ (m : Nat) (c : Int), 0 < m ∧ m ≤ 3 ∧ k + m ≤ s.size ∧ nxN (s.extract k s.size) = (m : Int) ∧ nxC (s.extract k s.size) = c ∧ decL ((bs s).drop k) = (decL ((bs s).drop (k + m))).map (c :: ·) := by
  have hl := bs_len s
  have e0 := bt_tail s k 0
  have e1 := bt_tail s k 1
  have e2 := bt_tail s k 2
  rw [Nat.add_zero] at e0
  by_cases hp : pl (bt s k) = true
  · refine Or.inr ⟨1, bt s k, by omega, by omega, by omega, ?_, ?_, ?_⟩
    · simp [nxN, e0, hp]
    · simp [nxC, e0, hp]
    · have := dec_step1 (bs s) k (by omega) (by rw [bs_at]; exact hp)
      rw [bs_at] at this
      exact this
  · have hp : pl (bt s k) = false := by simpa using hp
    by_cases h : bt s k = 37 ∧ k + 2 < s.size ∧ hd (bt s (k + 1)) = true ∧ hd (bt s (k + 2)) = true
    · have hn : nxIs (s.extract k s.size) = true := by
        unfold nxIs
        rw [e0, e1, e2, tail_size]
        exact decide_eq_true ⟨h.1, by omega, h.2.2⟩
      refine Or.inr ⟨3, hv (bt s (k + 1)) * 16 + hv (bt s (k + 2)), by omega, by omega, by omega, ?_, ?_, ?_⟩
      · simp [nxN, e0, hp, hn]
      · simp [nxC, e0, e1, e2, hp, hn]
      · have := dec_step3 (bs s) k (by omega) (by rw [bs_at]; exact hp) (by rw [bs_at]; exact h.1) (by rw [bs_at]; exact h.2.2.1) (by rw [bs_at]; exact h.2.2.2)
        rw [bs_at, bs_at] at this
        exact this
    · have hn : nxIs (s.extract k s.size) = false := by
        unfold nxIs
        rw [e0, e1, e2, tail_size]
        exact decide_eq_false (fun ⟨a, b, c⟩ => h ⟨a, by omega, c⟩)
      refine Or.inl ⟨?_, ?_, ?_⟩
      · simp [nxN, e0, hp, hn]
      · simp [nxC, e0, hp, hn]
      · refine dec_step0 (bs s) k (by omega) (by rw [bs_at]; exact hp) ?_
        rw [bs_at, bs_at, bs_at, hl]
        exact h

/-- the first k bytes say pre -/
def Mid (s : ByteArray) (k : Nat) (pre : List Int) : Prop := k ≤ s.size ∧ pre.length ≤ k ∧ decL (bs s) = (decL ((bs s).drop k)).map (pre ++ ·)
theorem mid_zero (s : ByteArray) : Mid s 0 [] := ⟨by omega, by simp, by simp⟩
theorem mid_step {s : ByteArray} {k : Nat} {pre : List Int} (h : Mid s k pre) {m : Nat} {c : Int} (hm : 0 < m) (hk : k + m ≤ s.size) (hd' : decL ((bs s).drop k) = (decL ((bs s).drop (k + m))).map (c :: ·)) : Mid s (k + m) (pre ++ [c]) := by
  refine ⟨hk, by have := h.2.1; simp; omega, ?_⟩
  rw [h.2.2, hd', Option.map_map]
  congr 1
  funext x
  simp
theorem mid_none {s : ByteArray} {k : Nat} {pre : List Int} (h : Mid s k pre) (hd' : decL ((bs s).drop k) = none) : decS s = ⟨#[]⟩ ∧ decB s = false := by
  have e : decL (bs s) = none := by rw [h.2.2, hd']; rfl
  simp [decS, decB, e, st]
theorem mid_end {s : ByteArray} {pre : List Int} (h : Mid s s.size pre) : decS s = st pre ∧ decB s = true := by
  have e : decL (bs s) = some pre := by rw [h.2.2, List.drop_eq_nil_of_le (by rw [bs_len]; omega)]; simp [decL]
  simp [decS, decB, e]

set_option maxHeartbeats 1600000 in
theorem decodeP (s : ByteArray) (w : World) (hs : s.size ≤ 100000000) : Calls Tryd.prog 53 #[.string s] w fun e w' => e = .returned (.tuple #[.string (decS s), .bool (decB s)]) ∧ Below w.heap.size w w' := by
  go_enter Tryd.func53, Tryd.ntmps53
  go_wp2_with (at_make; refine wpList_mk _ rfl _ _ rfl _ s.size rfl rfl rfl (by omega) ?_)
  intro v0 w0 h0
  have H0 := Lib.hid h0
  clear h0
  go_wp2_with fail
  go_loopw [4, 5] (fun v i wr => ∃ (k : Nat) (pre : List Int), k ≤ s.size ∧ i = .int .i64 k ∧ Mid s k pre ∧ Own w.heap.size w v pre wr) (fun _ i _ => s.size - (intOf i).toNat)
  case atStart => exact ⟨0, [], Nat.zero_le _, rfl, mid_zero s, H0.out⟩
  case round =>
    obtain ⟨k, pre, hk, rfl, hmid, hown⟩ := hrel
    have HO := Lib.hid hown
    have HM := Lib.hid hmid
    clear hown hmid
    have eb : Hid (pre.length ≤ 1000000000) := by have := HM.out.2.1; show _ ≤ _; omega
    by_cases hlt : k < s.size
    · have c0 : (k : Int) < (s.size : Int) := by omega
      have c1 : (k : Int) ≤ (s.size : Int) := by omega
      have hts := tail_size s k
      rcases nx_cases s k hlt with ⟨n1, n2, n3⟩ | ⟨m, c, hm0, hm3, hkm, n1, n2, n3⟩
      · obtain ⟨d1, d2⟩ := mid_none HM.out n3
        go_wp2_with (first | (go_at_call 70; refine (nextP _ _ (by omega) (by omega)).mono ?_; rintro e w' ⟨rfl, rfl⟩; rw [n1, n2]))
        rw [d1, d2]
        go_ret2
        exact ⟨rfl, HO.out.2.1⟩
      · have t0 : ¬ (m : Int) = 0 := by omega
        have t1 : ((m : Int) == 0) = false := by simpa using t0
        have HM1 := Lib.hid (mid_step HM.out hm0 hkm n3)
        go_wp2_with (first | (go_at_call 70; refine (nextP _ _ (by omega) (by omega)).mono ?_; rintro e w' ⟨rfl, rfl⟩; rw [n1, n2]) | (at_builtin; refine wpList_app _ rfl (.tmp 24) (.tmp 26) rfl w.heap.size w _ _ rfl (HO.out.alloc _) ?b1 wr.heap.size 1 1 [c] rfl rfl (by omega) (heap_alloc_new _ _) ?_))
        case b1 => exact eb.out
        intro v1 w1 h1
        have H1 := Lib.hid h1
        clear h1
        go_wp2_with fail
        go_roundw
        case rel => exact ⟨k + m, _, hkm, by go_num, HM1.out, H1.out⟩
        case measure => simp [intOf]; omega
    · obtain rfl : k = s.size := by omega
      obtain ⟨d1, d2⟩ := mid_end HM.out
      have hcv := own_text HO.out
      go_wp2
      rw [d1, d2]
      go_ret2
      exact ⟨rfl, HO.out.2.1⟩
end Go.Proofs.YtnnmbpghkflepaaDoor
