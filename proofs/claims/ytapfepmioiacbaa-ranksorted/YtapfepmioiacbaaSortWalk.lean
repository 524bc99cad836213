/-
  RankSorted, walked.
-/
import Derived.Test.YtapfepmioiacbaaSome
import Derived.Test.YtapfepmioiacbaaInts
import Derived.Test.YtapfepmioiacbaaPerm
import Derived.Test.YtapfepmioiacbaaRuns
namespace Go.Proofs.Ytapfepmioiacbaa
open Go.RowKit Go.PlainAid
set_option linter.unusedSimpArgs false

/-- what a part of a row is, as a source -/
theorem Gts.src {w : World} {A : Option Addr} {n c : Nat} {ls : List (List Sg)} (h : Gts w (.slice A n c) ls) : ls.length = n ∧ n ≤ c ∧ (A = none → c = 0) ∧ ∀ i, i < n → ∃ b o u, A = some ⟨b, o, none⟩ ∧ w.cell? ⟨b, o + i, none⟩ = some u ∧ Gt w u (ls.getD i default) := by
  obtain ⟨A', cap, e, h2, h3, h4⟩ := h
  simp only [Value.slice.injEq] at e
  obtain ⟨rfl, rfl, rfl⟩ := e
  exact ⟨rfl, h2, h3, h4⟩
theorem src_call {w w' : World} {A : Option Addr} {m : Nat} {ls : List (List Sg)} (h : ∀ i, i < m → ∃ b o u, A = some ⟨b, o, none⟩ ∧ w.cell? ⟨b, o + i, none⟩ = some u ∧ Gt w u (ls.getD i default)) (hb : Below w.heap.size w w') : ∀ i, i < m → ∃ b o u, A = some ⟨b, o, none⟩ ∧ w'.cell? ⟨b, o + i, none⟩ = some u ∧ Gt w' u (ls.getD i default) := by
  intro i hi
  obtain ⟨b, o, u, h1, h2, h3⟩ := h i hi
  exact ⟨b, o, u, h1, by rw [hb.cell (World.block_lt_of_cell? _ _ h2)]; exact h2, h3.call hb⟩
theorem src_drop {w : World} {A : Option Addr} {N c k : Nat} {ls : List (List Sg)} (hN : N ≤ c) (h : ∀ i, i < N → ∃ b o u, A = some ⟨b, o, none⟩ ∧ w.cell? ⟨b, o + i, none⟩ = some u ∧ Gt w u (ls.getD i default)) :
    ∀ i, i < N - k → ∃ b o u, (if c = k then A else Option.map (fun x => x.add k) A) = some ⟨b, o, none⟩ ∧ w.cell? ⟨b, o + i, none⟩ = some u ∧ Gt w u ((ls.drop k).getD i default) := by
  intro i hi
  obtain ⟨b, o, u, h1, h2, h3⟩ := h (k + i) (by omega)
  refine ⟨b, o + k, u, ?_, by rw [Nat.add_assoc]; exact h2, ?_⟩
  · rw [if_neg (by omega), h1]
    simp [Addr.add_lit]
  · have e : (ls.drop k).getD i default = ls.getD (k + i) default := by simp [List.getD, List.getElem?_drop]
    rw [e]
    exact h3
theorem src_take {w : World} {A : Option Addr} {N k : Nat} {ls : List (List Sg)} (hk : k ≤ N) (h : ∀ i, i < N → ∃ b o u, A = some ⟨b, o, none⟩ ∧ w.cell? ⟨b, o + i, none⟩ = some u ∧ Gt w u (ls.getD i default)) :
    ∀ i, i < k → ∃ b o u, A = some ⟨b, o, none⟩ ∧ w.cell? ⟨b, o + i, none⟩ = some u ∧ Gt w u ((ls.take k).getD i default) := by
  intro i hi
  obtain ⟨b, o, u, h1, h2, h3⟩ := h i (by omega)
  refine ⟨b, o, u, h1, h2, ?_⟩
  have e : (ls.take k).getD i default = ls.getD i default := by simp only [List.getD]; rw [List.getElem?_take_of_lt hi]
  rw [e]
  exact h3
theorem Ni.at2 {w : World} {v : Value} {ps : List Nat} (h : Ni w v ps) : ∃ A cap, v = .slice A ps.length cap ∧ ∀ i, i < ps.length → ∃ b o, A = some ⟨b, o, none⟩ ∧ w.cell? ⟨b, o + i, none⟩ = some (.int .i64 (ps.getD i 0 : Nat)) := by
  obtain ⟨A, cap, h1, _, _, h4⟩ := h
  exact ⟨A, cap, h1, h4⟩
theorem Places.len2 {ls : List (List Sg)} {ps : List Nat} (h : Places ls ps) : ps.length = ls.length := h.len
theorem turn_perm {α : Type} (l : List α) (k : Nat) : (l.drop k ++ l.take k).Perm l := by
  have h : (l.drop k ++ l.take k).Perm (l.take k ++ l.drop k) := List.perm_append_comm
  rw [List.take_append_drop] at h
  exact h
def filN (N : Nat) (l : List Nat) : List Nat := l.filter (fun x => decide (x ≠ N))
theorem fil_next (rs : List Nat) (N j : Nat) (hj : j < rs.length) : filN N (rs.take (j + 1)) = filN N (rs.take j) ++ (if rs.getD j 0 = N then [] else [rs.getD j 0]) := by
  have e : rs.take (j + 1) = rs.take j ++ [rs.getD j 0] := by
    rw [List.take_add_one]
    simp [List.getD, hj]
  unfold filN
  rw [e, List.filter_append]
  congr 1
  by_cases h : rs.getD j 0 = N
  · rw [if_pos h, h]
    simp
  · rw [if_neg h, List.filter_cons, if_pos (show decide (rs.getD j 0 ≠ N) = true from decide_eq_true h)]
    rfl
theorem map_at {α β : Type} [Inhabited β] {f g : α → β} {a b : List α} {d : α} (h : a.map f = b.map g) {j : Nat} (h1 : j < a.length) (h2 : j < b.length) : f (a.getD j d) = g (b.getD j d) := by
  have e := congrArg (fun l : List β => l[j]?) h
  simp [h1, h2] at e
  simpa [List.getD, h1, h2] using e
theorem Places.lt2 {ls : List (List Sg)} {ps : List Nat} (h : Places ls ps) {i : Nat} (hi : i < ls.length) : ps.getD i 0 < ls.length := by
  have hl := h.len
  have hm : ps.getD i 0 ∈ ps := by simp [List.getD, show i < ps.length by omega]
  have := h.1.mem_iff.1 hm
  simpa using this
theorem sameI_self (v1 v2 : Value) (a : List Nat) (w : World) (h1 : Ni w v1 a) (h2 : Ni w v2 a) (hz : a.length ≤ 1000) : Calls Try.prog 16 #[v1, v2] w fun e w' => e = .returned (.bool true) ∧ ∃ q, w' = w.drewN q :=
  (sameI16 v1 v2 a a w h1 h2 hz hz).mono fun _ _ ⟨h, hw⟩ => ⟨by rw [h, decide_eq_true rfl], hw⟩

set_option maxHeartbeats 6400000 in
set_option maxRecDepth 100000 in
theorem sorted_any (A : Option Addr) (n c : Nat) (cut : Int) (A3 A4 : Option Addr) (n3 c3 n4 c4 : Nat) (lb : Int) (f3 f4 : Nat → Int) (w : World) (hk : Ks w A n) (k3 : Ia w A3 n3 f3) (k4 : Ia w A4 n4 f4) :
    Calls Try.prog 6 #[.slice A n c, .int .i64 cut, .agg #[.slice A3 n3 c3, .slice A4 n4 c4, .int .i64 lb]] w fun e w' => e = .returned (.bool true) ∧ Below w.heap.size w w' := by
  have HX0 := Lib.hid (blk_new w (.cells #[.slice A3 n3 c3, .slice A4 n4 c4, .int .i64 lb] 37 (0, 0)))
  have b0 := (Below.refl w.heap.size w).alloc (Nat.le_refl _) (.cells #[.slice A3 n3 c3, .slice A4 n4 c4, .int .i64 lb] 37 (0, 0))
  have HB0 := Lib.hid b0
  have K3 := Lib.hid (k3.call b0)
  have K4 := Lib.hid (k4.call b0)
  have X1 := Lib.hid (some10 A n c (.slice none 0 0) [] (w.alloc (.cells #[.slice A3 n3 c3, .slice A4 n4 c4, .int .i64 lb] 37 (0, 0))) (hk.call b0) (gss_nil _) (by simp) (by simp))
  clear b0 hk k3 k4
  go_enter Try.func6, Try.ntmps6
  go_wp2_with fail
  generalize w.alloc (.cells #[.slice A3 n3 c3, .slice A4 n4 c4, .int .i64 lb] 37 (0, 0)) = w0 at *
  refine X1.out.mono ?_
  rintro e w1 ⟨u, ls, rfl, hown, hsix, hlen⟩
  have hl8 : ls.length ≤ 8 := by simpa using hlen
  have B1 := Lib.hid hown.below
  have G1 := Lib.hid hown.gts
  have F1 := Lib.hid hsix.few
  have S1 := Lib.hid hsix
  obtain ⟨A1, c1, hv1⟩ := box_len hown.gss
  subst hv1
  clear hown hsix X1 hlen
  obtain ⟨N, hN⟩ : ∃ N, ls.length = N := ⟨_, rfl⟩
  rw [hN] at hl8 G1 ⊢
  have HN := Lib.hid hN
  clear hN
  have wr2 := wi_in cut N (by omega)
  obtain ⟨k, hkk⟩ : ∃ k : Nat, wi cut N = (k : Int) := ⟨(wi cut N).toNat, by omega⟩
  have hkN : k ≤ N := by omega
  have HKK0 := Lib.hid hkk
  clear hkk wr2
  obtain ⟨_, hNc, hA1, hsrc⟩ := G1.out.src
  have HSrc := Lib.hid hsrc
  have HA1 := Lib.hid hA1
  clear hsrc hA1
  go_wp2_with (first | (go_at_call 15; refine (within_nat cut N k _ (by omega) HKK0.out).mono ?_; rintro e w' ⟨rfl, hww⟩; rw [hww]))
  have d0 : (k : Int) ≤ (N : Int) := by omega
  have d1 : (N : Int) ≤ (c1 : Int) := by omega
  have d2 : (k : Int) ≤ (c1 : Int) := by omega
  have hS0 : (fun _ : World => True) w1.drew := trivial
  refine wp_region_sink (S := fun _ : World => True) (n := 1000) (by kernel_rfl) ?_
  change wpSink _ _ _ _ _ 1000 10 _ _ _
  refine sink_take1 (i := 1) (d := some 24) (v := ?_) rfl rfl (by kernel_rfl) (by decide) (by kernel_rfl) (by kernel_rfl) (fun _ _ _ h => h) (Or.inl ⟨by rfl, ?_⟩) hS0 ?_
  rotate_left
  · intro wz hSw
    (try dsimp only at hSw)
    go_simp
    (try with_reducible rfl)
  try simp only [Act.put, List.setIfInBounds_toArray, List.set_cons_zero, List.set_cons_succ]
  refine sink_take1 (i := 2) (d := some 25) (v := ?_) rfl rfl (by kernel_rfl) (by decide) (by kernel_rfl) (by kernel_rfl) (fun _ _ _ h => h) (Or.inl ⟨by rfl, ?_⟩) hS0 ?_
  rotate_left
  · intro wz hSw
    (try dsimp only at hSw)
    go_simp
    (try with_reducible rfl)
  try simp only [Act.put, List.setIfInBounds_toArray, List.set_cons_zero, List.set_cons_succ]
  refine sink_take1 (i := 3) (d := some 26) (v := ?_) rfl rfl (by kernel_rfl) (by decide) (by kernel_rfl) (by kernel_rfl) (fun _ _ _ h => h) (Or.inl ⟨by rfl, ?_⟩) hS0 ?_
  rotate_left
  · intro wz hSw
    (try dsimp only at hSw)
    go_simp
    (try with_reducible rfl)
  try simp only [Act.put, List.setIfInBounds_toArray, List.set_cons_zero, List.set_cons_succ]
  have SD := Lib.hid (src_drop (k := k) hNc HSrc.out)
  have SN : Hid ((if c1 = k then A1 else Option.map (fun x => x.add k) A1) = none → c1 - k = 0) := by
    intro e
    by_cases h : c1 = k
    · omega
    · rw [if_neg h] at e
      have := HA1.out (by simpa using e)
      omega
  generalize (if c1 = k then A1 else Option.map (fun x => x.add k) A1) = A9 at *
  refine sink_take1 (i := 5) (d := some 28) (v := ?_) rfl rfl (by kernel_rfl) (by decide) (by kernel_rfl) (by kernel_rfl) (fun _ _ _ h => h) (Or.inl ⟨by rfl, ?_⟩) hS0 ?_
  rotate_left
  · intro wz hSw
    (try dsimp only at hSw)
    go_simp
    (try with_reducible rfl)
  try simp only [Act.put, List.setIfInBounds_toArray, List.set_cons_zero, List.set_cons_succ]
  refine sink_take1 (i := 6) (d := some 29) (v := ?_) rfl rfl (by kernel_rfl) (by decide) (by kernel_rfl) (by kernel_rfl) (fun _ _ _ h => h) (Or.inl ⟨by rfl, ?_⟩) hS0 ?_
  rotate_left
  · intro wz hSw
    (try dsimp only at hSw)
    go_simp
    (try with_reducible rfl)
  try simp only [Act.put, List.setIfInBounds_toArray, List.set_cons_zero, List.set_cons_succ]
  refine sink_take1 (i := 7) (d := some 30) (v := ?_) rfl rfl (by kernel_rfl) (by decide) (by kernel_rfl) (by kernel_rfl) (fun _ _ _ h => h) (Or.inl ⟨by rfl, ?_⟩) hS0 ?_
  rotate_left
  · intro wz hSw
    (try dsimp only at hSw)
    go_simp
    (try with_reducible rfl)
  try simp only [Act.put, List.setIfInBounds_toArray, List.set_cons_zero, List.set_cons_succ]
  have BD := Lib.hid ((Below.refl w1.heap.size w1).drew)
  have E0 := Lib.hid (empL w1.heap.size w1 w1.drew BD.out (Nat.le_refl _))
  have BE := Lib.hid (BD.out.alloc (Nat.le_refl _) (.cells #[] 26 (0, 0)))
  have L1 : Hid ((ls.drop k).length = N - k) := by show _ = _; rw [List.length_drop, HN.out]
  have L2 : Hid ((ls.take k).length = k) := by show _ = _; rw [List.length_take, HN.out]; omega
  refine sink_one (i := 0) (by kernel_rfl) ?_
  refine wpOp_step rfl (fun K' hK => ?_)
  have HKK := Lib.hid hK
  clear hK
  rw [if_pos (by rfl)]
  go_simp
  refine HKK.out _ _ ⟨Or.inr trivial, ?_⟩
  clear HKK
  try simp only [Act.put, List.setIfInBounds_toArray, List.set_cons_zero, List.set_cons_succ]
  refine sink_one (i := 4) (by kernel_rfl) ?_
  refine wpOp_step rfl (fun K' hK => ?_)
  have HKK := Lib.hid hK
  clear hK
  rw [if_pos (by rfl)]
  refine wp_appL (w := w1.drew.alloc (.cells #[] 26 (0, 0))) (.tmp 23) (.tmp 26) rfl rfl E0.out (by simp) _ (N - k) (c1 - k) (ls.drop k) rfl L1.out (by omega) (by omega) SN.out (src_call SD.out BE.out) ?_
  intro v4 w4 h4 hg4
  have H4 := Lib.hid h4
  obtain ⟨A5, n5, c5, rfl⟩ := h4.shape
  clear h4 hg4
  refine HKK.out _ _ ⟨Or.inr trivial, ?_⟩
  clear HKK
  change wpSink _ _ _ _ _ _ _ _ (Act.put _ (some 27) _) _
  try simp only [Act.put, List.setIfInBounds_toArray, List.set_cons_zero, List.set_cons_succ]
  refine sink_one (i := 8) (by kernel_rfl) ?_
  refine wpOp_step rfl (fun K' hK => ?_)
  have HKK := Lib.hid hK
  clear hK
  rw [if_pos (by rfl)]
  refine wp_appL (w := w4) (.tmp 27) (.tmp 30) rfl rfl H4.out (by rw [List.nil_append, L1.out]; omega) _ k c1 (ls.take k) rfl L2.out (by omega) (by omega) HA1.out (src_take hkN (src_call HSrc.out H4.out.below)) ?_
  intro v5 w5 h5 hg5
  rw [List.nil_append] at h5
  have H5 := Lib.hid h5
  obtain ⟨A6, c6, hv6⟩ := box_len h5.gss
  subst hv6
  have L5 : Hid ((ls.drop k ++ ls.take k).length = N) := by show _ = _; rw [List.length_append, L1.out, L2.out]; omega
  rw [L5.out] at H5
  clear h5 hg5
  refine HKK.out _ _ ⟨Or.inr trivial, ?_⟩
  clear HKK
  change wpSink _ _ _ _ _ _ _ _ (Act.put _ (some 31) _) _
  try simp only [Act.put, List.setIfInBounds_toArray, List.set_cons_zero, List.set_cons_succ]
  refine sink_take1 (i := 9) (d := some 9) (v := ?_) rfl rfl (by kernel_rfl) (by decide) (by kernel_rfl) (by kernel_rfl) (fun _ _ _ h => h) (Or.inl ⟨by rfl, ?_⟩) trivial ?_
  rotate_left
  · intro wz hSw
    (try dsimp only at hSw)
    go_simp
    (try with_reducible rfl)
  try simp only [Act.put, List.setIfInBounds_toArray, List.set_cons_zero, List.set_cons_succ]
  refine sink_done (by kernel_rfl) ?_
  clear hS0 BD E0 BE H4 SD SN
  have B5 := Lib.hid H5.out.below
  have G5 := Lib.hid (G1.out.call B5.out)
  have T5 := Lib.hid H5.out.gss
  have F5 : Hid (Few (ls.drop k ++ ls.take k)) := by
    intro l hl
    rw [List.mem_append] at hl
    rcases hl with h | h
    · exact F1.out l (List.mem_of_mem_drop h)
    · exact F1.out l (List.mem_of_mem_take h)
  go_wp2_with fail
  refine (sorted11 _ ls w5 G5.out.gss (by rw [HN.out]; omega) F1.out).mono ?_
  rintro e w6 ⟨ua, ps, rfl, hni, hpl, hb6⟩
  have B6 := Lib.hid (B5.out.trans (hb6.mono B5.out.size))
  have Na := Lib.hid hni
  have Pa := Lib.hid hpl
  have T6 := Lib.hid (T5.out.call hb6)
  obtain ⟨Aa, ca, hva, _⟩ := hni.at2
  have la : Hid (ps.length = N) := hpl.len.trans HN.out
  rw [la.out] at hva
  subst hva
  clear hni hpl hb6 T5
  go_wp2_with fail
  refine (sorted11 _ _ w6 T6.out (by rw [L5.out]; omega) F5.out).mono ?_
  rintro e w7 ⟨ub, qs, rfl, hni, hpl, hb7⟩
  have B7 := Lib.hid (B6.out.trans (hb7.mono B6.out.size))
  have Nb := Lib.hid hni
  have Pb := Lib.hid hpl
  have Na7 := Lib.hid (Na.out.call hb7)
  have T7 := Lib.hid (T6.out.call hb7)
  obtain ⟨Ab, cb, hvb, _⟩ := hni.at2
  have lb' : Hid (qs.length = N) := hpl.len.trans L5.out
  rw [lb'.out] at hvb
  subst hvb
  clear hni hpl hb7 T6 Na
  go_wp2_with fail
  have KB : Hid (∀ W, Below w1.heap.size w1 W → (fun W : World => W.cell? ⟨w.heap.size, 0, none⟩ = some (.slice A3 n3 c3) ∧ W.cell? ⟨w.heap.size, 1, none⟩ = some (.slice A4 n4 c4) ∧ W.cell? ⟨w.heap.size, 2, none⟩ = some (.int .i64 lb)) W) := by
    intro W hW
    exact blk3 (blk_call (blk_call HX0.out B1.out) hW)
  have hS0 : (fun W : World => W.cell? ⟨w.heap.size, 0, none⟩ = some (.slice A3 n3 c3) ∧ W.cell? ⟨w.heap.size, 1, none⟩ = some (.slice A4 n4 c4) ∧ W.cell? ⟨w.heap.size, 2, none⟩ = some (.int .i64 lb)) w7.drew := KB.out _ (B7.out.trans ((Below.refl _ _).drew))
  refine wp_region_sink (S := (fun W : World => W.cell? ⟨w.heap.size, 0, none⟩ = some (.slice A3 n3 c3) ∧ W.cell? ⟨w.heap.size, 1, none⟩ = some (.slice A4 n4 c4) ∧ W.cell? ⟨w.heap.size, 2, none⟩ = some (.int .i64 lb))) (n := 1000) (by kernel_rfl) ?_
  change wpSink _ _ _ _ _ 1000 9 _ _ _
  refine sink_take1 (i := 1) (d := some 37) (v := ?_) rfl rfl (by kernel_rfl) (by decide) (by kernel_rfl) (by kernel_rfl) (fun _ _ _ h => h) (Or.inl ⟨by rfl, ?_⟩) hS0 ?_
  rotate_left
  · intro wz hSw
    (try dsimp only at hSw)
    obtain ⟨s0, s1, s2⟩ := hSw
    go_simp
    (try with_reducible rfl)
  try simp only [Act.put, List.setIfInBounds_toArray, List.set_cons_zero, List.set_cons_succ]
  refine sink_take1 (i := 3) (d := some 39) (v := ?_) rfl rfl (by kernel_rfl) (by decide) (by kernel_rfl) (by kernel_rfl) (fun _ _ _ h => h) (Or.inl ⟨by rfl, ?_⟩) hS0 ?_
  rotate_left
  · intro wz hSw
    (try dsimp only at hSw)
    obtain ⟨s0, s1, s2⟩ := hSw
    go_simp
    (try with_reducible rfl)
  try simp only [Act.put, List.setIfInBounds_toArray, List.set_cons_zero, List.set_cons_succ]
  have BD := Lib.hid ((Below.refl w7.heap.size w7).drew)
  have E0 := Lib.hid (empL w7.heap.size w7 w7.drew BD.out (Nat.le_refl _))
  have BE := Lib.hid (BD.out.alloc (Nat.le_refl _) (.cells #[] 26 (0, 0)))
  refine sink_one (i := 0) (by kernel_rfl) ?_
  refine wpOp_step rfl (fun K' hK => ?_)
  have HKK := Lib.hid hK
  clear hK
  rw [if_pos (by rfl)]
  go_simp
  refine HKK.out _ _ ⟨Or.inr (KB.out _ (B7.out.trans (BE.out.mono B7.out.size))), ?_⟩
  clear HKK
  try simp only [Act.put, List.setIfInBounds_toArray, List.set_cons_zero, List.set_cons_succ]
  refine sink_one (i := 2) (by kernel_rfl) ?_
  refine wpOp_step rfl (fun K' hK => ?_)
  have HKK := Lib.hid hK
  clear hK
  rw [if_pos (by rfl)]
  refine wp_appL (w := w7.drew.alloc (.cells #[] 26 (0, 0))) (.tmp 36) (.tmp 37) rfl rfl E0.out (by simp) _ N c1 ls rfl HN.out (by omega) (by omega) HA1.out (src_call HSrc.out (B7.out.trans (BE.out.mono B7.out.size))) ?_
  intro v8 w8 h8 hg8
  rw [List.nil_append] at h8
  have H8 := Lib.hid h8
  obtain ⟨A8, n8, c8, rfl⟩ := h8.shape
  have B8 := Lib.hid (B7.out.trans (h8.below.mono B7.out.size))
  clear h8 hg8
  refine HKK.out _ _ ⟨Or.inr (KB.out _ B8.out), ?_⟩
  clear HKK
  change wpSink _ _ _ _ _ _ _ _ (Act.put _ (some 38) _) _
  try simp only [Act.put, List.setIfInBounds_toArray, List.set_cons_zero, List.set_cons_succ]
  refine sink_one (i := 4) (by kernel_rfl) ?_
  refine wpOp_step rfl (fun K' hK => ?_)
  have HKK := Lib.hid hK
  clear hK
  rw [if_pos (by rfl)]
  go_simp
  refine (segs13 A3 A4 n3 c3 n4 c4 lb f3 f4 _ (K3.out.call (B1.out.trans (B8.out.mono B1.out.size))) (K4.out.call (B1.out.trans (B8.out.mono B1.out.size)))).mono ?_
  rintro e w9 ⟨vm, lm, rfl, hgm, hkm, hbm⟩
  have GM := Lib.hid hgm
  have lm5 : lm.length ≤ 5 := hkm
  have H9 := Lib.hid (H8.out.call hbm)
  have B9 := Lib.hid (B8.out.trans (hbm.mono B8.out.size))
  obtain ⟨Am, nm, cm, rfl⟩ := hgm.shape
  clear hgm hkm hbm
  refine HKK.out _ _ ⟨Or.inr (KB.out _ B9.out), ?_⟩
  clear HKK
  try simp only [Act.put, List.setIfInBounds_toArray, List.set_cons_zero, List.set_cons_succ]
  refine sink_one (i := 5) (by kernel_rfl) ?_
  refine wpOp_step rfl (fun K' hK => ?_)
  have HKK := Lib.hid hK
  clear hK
  rw [if_pos (by rfl)]
  go_simp
  have B10 := Lib.hid (B9.out.alloc B9.out.size (.cells #[.slice Am nm cm] 26 (0, 0)))
  refine HKK.out _ _ ⟨Or.inr (KB.out _ B10.out), ?_⟩
  clear HKK
  try simp only [Act.put, List.setIfInBounds_toArray, List.set_cons_zero, List.set_cons_succ]
  refine sink_one (i := 6) (by kernel_rfl) ?_
  refine wpOp_step rfl (fun K' hK => ?_)
  have HKK := Lib.hid hK
  clear hK
  rw [if_pos (by rfl)]
  refine wp_appL (w := w9.alloc (.cells #[.slice Am nm cm] 26 (0, 0))) (.tmp 38) (.tmp 41) rfl rfl (H9.out.alloc (.cells #[.slice Am nm cm] 26 (0, 0))) (by rw [HN.out]; omega) _ 1 1 [lm] rfl rfl (by omega) (by omega) (fun e => by cases e) (one_src (blk_new w9 (.cells #[.slice Am nm cm] 26 (0, 0))) (GM.out.call ((Below.refl _ _).alloc (Nat.le_refl _) _))) ?_
  intro v11 w11 h11 hg11
  have H11 := Lib.hid h11
  obtain ⟨A11, n11, c11, rfl⟩ := h11.shape
  have B11 := Lib.hid (B7.out.trans (h11.below.mono B7.out.size))
  have W11 := Lib.hid h11.below
  clear h11 hg11
  refine HKK.out _ _ ⟨Or.inr (KB.out _ B11.out), ?_⟩
  clear HKK
  change wpSink _ _ _ _ _ _ _ _ (Act.put _ (some 42) _) _
  try simp only [Act.put, List.setIfInBounds_toArray, List.set_cons_zero, List.set_cons_succ]
  refine sink_one (i := 7) (by kernel_rfl) ?_
  refine wpOp_step rfl (fun K' hK => ?_)
  have HKK := Lib.hid hK
  clear hK
  rw [if_pos (by rfl)]
  go_simp
  have LC : Hid ((ls ++ [lm]).length = N + 1) := by show _ = _; rw [List.length_append, HN.out]; rfl
  have FC : Hid (Few (ls ++ [lm])) := by
    intro l hl
    rw [List.mem_append] at hl
    rcases hl with h | h
    · exact F1.out l h
    · simp at h
      subst h
      omega
  refine (sorted11 _ _ w11 H11.out.gss (by rw [LC.out]; omega) FC.out).mono ?_
  rintro e w12 ⟨uc, rs, rfl, hni, hpl, hb12⟩
  have B12 := Lib.hid (B11.out.trans (hb12.mono B11.out.size))
  have W12 := Lib.hid (W11.out.trans (hb12.mono W11.out.size))
  have Nc := Lib.hid hni
  have Pc := Lib.hid hpl
  obtain ⟨Ac, cc, hvc, _⟩ := hni.at2
  have lc : Hid (rs.length = N + 1) := hpl.len.trans LC.out
  rw [lc.out] at hvc
  subst hvc
  clear hni hpl hb12
  refine HKK.out _ _ ⟨Or.inr (KB.out _ B12.out), ?_⟩
  clear HKK
  try simp only [Act.put, List.setIfInBounds_toArray, List.set_cons_zero, List.set_cons_succ]
  refine sink_take1 (i := 8) (d := some 12) (v := ?_) rfl rfl (by kernel_rfl) (by decide) (by kernel_rfl) (by kernel_rfl) (fun _ _ _ h => h) (Or.inl ⟨by rfl, ?_⟩) (KB.out _ B12.out) ?_
  rotate_left
  · intro wz hSw
    (try dsimp only at hSw)
    obtain ⟨s0, s1, s2⟩ := hSw
    go_simp
    (try with_reducible rfl)
  try simp only [Act.put, List.setIfInBounds_toArray, List.set_cons_zero, List.set_cons_succ]
  refine sink_done (by kernel_rfl) ?_
  have Na12 := Lib.hid (Na7.out.call W12.out)
  have Nb12 := Lib.hid (Nb.out.call W12.out)
  have T12 := Lib.hid (T7.out.call W12.out)
  have G12 := Lib.hid (G1.out.call B12.out).gss
  have BW := Lib.hid (HB0.out.trans ((B1.out.trans (B12.out.mono B1.out.size)).mono HB0.out.size))
  have FM := Lib.hid (places_more Pa.out Pc.out)
  have FT := Lib.hid (places_turned Pa.out Pb.out (turn_perm ls k))
  clear hS0 BD E0 BE H8 H9 H11 B5 B6 B7 B8 B9 B10 B11 W11 KB HX0 K3 K4 HB0 T7 Na7 Nb H5 G5 HSrc HA1 GM
  go_wp2_with fail
  go_loopw [13, 66] (fun v i wr => ∃ (j : Nat), j ≤ N + 1 ∧ i = .int .i64 j ∧ Hid (OwnI w12.heap.size w12 v (filN N (rs.take j)) wr)) (fun _ i _ => N + 1 - (intOf i).toNat)
  case atStart => exact ⟨0, Nat.zero_le _, rfl, nilI _ _ _ (Below.refl _ _) (Nat.le_refl _)⟩
  case round =>
    obtain ⟨j, hj, rfl, HO⟩ := hrel
    obtain ⟨A13, n13, c13, rfl⟩ := HO.out.ni.shape
    by_cases hlt : j < N + 1
    · have e0 : (j : Int) < (N : Int) + 1 := by omega
      have e0' : (j : Int) < ((N + 1 : Nat) : Int) := by omega
      obtain ⟨A', cap', hv, hcx⟩ := (Nc.out.call HO.out.2.1).at2
      rw [lc.out] at hv hcx
      simp only [Value.slice.injEq] at hv
      obtain ⟨rfl, -, rfl⟩ := hv
      obtain ⟨b, o, rfl, g1⟩ := hcx j hlt
      have HF := Lib.hid (fil_next rs N j (by rw [lc.out]; exact hlt))
      have hfl : (filN N (rs.take j)).length ≤ 1000 := by
        have h1 : (filN N (rs.take j)).length ≤ (rs.take j).length := List.length_filter_le _ _
        have h2 : (rs.take j).length ≤ j := by simp; omega
        omega
      have HFL := Lib.hid hfl
      clear hcx hfl
      generalize rs.getD j 0 = x at *
      by_cases hx : x = N
      · have q0 : ((x : Int) == (N : Int)) = true := by simp [hx]
        have HE : Hid (filN N (rs.take (j + 1)) = filN N (rs.take j)) := by
          have := HF.out
          rw [if_pos hx, List.append_nil] at this
          exact this
        clear hx HF
        go_wp2_with fail
        go_roundw
        case rel => exact ⟨j + 1, by omega, by go_num, by rw [HE.out]; exact HO.out⟩
        case measure => simp [intOf]; omega
      · have q0 : ((x : Int) == (N : Int)) = false := by simp; omega
        have HE : Hid (filN N (rs.take (j + 1)) = filN N (rs.take j) ++ [x]) := by
          have := HF.out
          rw [if_neg hx] at this
          exact this
        clear hx HF
        go_wp2_with (first | (at_builtin; refine wpList_appI (w := wr.alloc (.cells #[.int .i64 (x : Int)] 3 (0, 0))) rfl (.tmp 74) (.tmp 76) rfl rfl (HO.out.alloc (.cells #[.int .i64 (x : Int)] 3 (0, 0))) HFL.out wr.heap.size x rfl (blk_new _ _) ?_))
        intro v4 w4 h4 _
        rw [← HE.out] at h4
        have H4 := Lib.hid h4
        obtain ⟨A14, n14, c14, rfl⟩ := h4.ni.shape
        clear h4
        go_wp2_with fail
        go_roundw
        case rel => exact ⟨j + 1, by omega, by go_num, H4.out⟩
        case measure => simp [intOf]; omega
    · have hjN : j = N + 1 := by omega
      have e1 : ¬ (j : Int) < (N : Int) + 1 := by omega
      have HL : Hid (OwnI w12.heap.size w12 (.slice A13 n13 c13) ps wr) := by
        have := HO.out
        rw [List.take_of_length_le (by rw [lc.out]; omega), ← HN.out] at this
        unfold filN at this
        rw [FM.out] at this
        exact this
      have Bz := Lib.hid HL.out.2.1
      have NL := Lib.hid HL.out.ni
      have Na13 := Lib.hid (Na12.out.call Bz.out)
      have Nb13 := Lib.hid (Nb12.out.call Bz.out)
      have G13 := Lib.hid (G12.out.call Bz.out)
      have T13 := Lib.hid (T12.out.call Bz.out)
      generalize wr = w13 at *
      clear hjN HO Na12 Nb12 G12 T12
      go_wp2_with fail
      go_loopw [81] (fun i wz => ∃ (m : Nat), m ≤ N ∧ i = .int .i64 m ∧ Hid (∃ q, wz = w13.drewN q)) (fun i _ => N - (intOf i).toNat)
      case atStart => exact ⟨0, Nat.zero_le _, rfl, 0, rfl⟩
      case round =>
        obtain ⟨m, hm, rfl, hw⟩ := hrel
        by_cases hlm : m < N
        · have f0 : (m : Int) < (N : Int) := by omega
          have hpx : ps.getD m 0 < N := by have := Pa.out.lt2 (i := m) (by rw [HN.out]; exact hlm); rw [HN.out] at this; exact this
          have hqx : qs.getD m 0 < N := by have := Pb.out.lt2 (i := m) (by rw [L5.out]; exact hlm); rw [L5.out] at this; exact this
          have heq := map_at (d := 0) FT.out (j := m) (by rw [la.out]; exact hlm) (by rw [lb'.out]; exact hlm)
          obtain ⟨Aa', ca', hva, hcxa⟩ := Na13.out.at2
          rw [la.out] at hva hcxa
          simp only [Value.slice.injEq] at hva
          obtain ⟨rfl, -, rfl⟩ := hva
          obtain ⟨ba, oa, rfl, ga⟩ := hcxa m hlm
          obtain ⟨Ab', cb', hvb, hcxb⟩ := Nb13.out.at2
          rw [lb'.out] at hvb hcxb
          simp only [Value.slice.injEq] at hvb
          obtain ⟨rfl, -, rfl⟩ := hvb
          obtain ⟨bb, ob, rfl, gb⟩ := hcxb m hlm
          clear hcxa hcxb
          generalize ps.getD m 0 = x at *
          generalize qs.getD m 0 = y at *
          obtain ⟨Al', cl', hvl, _, _, hcl⟩ := G13.out
          rw [HN.out] at hvl hcl
          simp only [Value.slice.injEq] at hvl
          obtain ⟨rfl, -, rfl⟩ := hvl
          obtain ⟨bl, ol, ul, rfl, gl, hul⟩ := hcl x hpx
          obtain ⟨At', ct', hvt, _, _, hct⟩ := T13.out
          rw [L5.out] at hvt hct
          simp only [Value.slice.injEq] at hvt
          obtain ⟨rfl, -, rfl⟩ := hvt
          obtain ⟨bt', ot, ut, rfl, gt', hut⟩ := hct y hqx
          clear hcl hct
          have XC := Lib.hid (fun W hW => compare8 _ _ _ _ W (hul.drN hW) (hut.drN hW) (F1.out.at x) (F5.out.at y))
          rw [heq, tcP.refl] at XC
          obtain ⟨A21, m21, c21, rfl⟩ := hul.shape
          obtain ⟨A22, m22, c22, rfl⟩ := hut.shape
          have ga : wr.cell? ⟨ba, oa + m, none⟩ = some (.int .i64 (x : Nat)) := by rw [drC hw.out]; exact ga
          have gb : wr.cell? ⟨bb, ob + m, none⟩ = some (.int .i64 (y : Nat)) := by rw [drC hw.out]; exact gb
          have gl : wr.cell? ⟨bl, ol + x, none⟩ = some (.slice A21 m21 c21) := by rw [drC hw.out]; exact gl
          have gt' : wr.cell? ⟨bt', ot + y, none⟩ = some (.slice A22 m22 c22) := by rw [drC hw.out]; exact gt'
          clear hul hut heq
          have x1 : ¬ (x : Int) < 0 := by omega
          have x2 : decide ((x : Int) < 0) = false := by simp
          have x3 : ¬ (N : Int) ≤ (x : Int) := by omega
          have x4 : decide (N ≤ x) = false := by simp; omega
          have x5 : (x : Int) < (N : Int) := by omega
          have y1 : ¬ (y : Int) < 0 := by omega
          have y2 : decide ((y : Int) < 0) = false := by simp
          have y3 : ¬ (N : Int) ≤ (y : Int) := by omega
          have y4 : decide (N ≤ y) = false := by simp; omega
          have y5 : (y : Int) < (N : Int) := by omega
          go_wp2_with fail
          go_quiet (first | (go_at_call 8; exact Calls.quiet_of (XC.out _ (drN hw.out _))))
          go_wp2_with fail
          go_roundw
          case rel => exact ⟨m + 1, by omega, by go_num, drN hw.out _⟩
          case measure => simp [intOf]; omega
        · obtain rfl : m = N := by omega
          have Bwr := Lib.hid (drB hw.out w13.heap.size)
          have BWr := Lib.hid (BW.out.trans ((Bz.out.trans (Bwr.out.mono Bz.out.size)).mono BW.out.size))
          have X16 := Lib.hid (fun W hW => sameI_self _ _ ps W ((NL.out.call Bwr.out).call hW) ((Na13.out.call Bwr.out).call hW) (by rw [la.out]; omega))
          have X9 := Lib.hid (fun W hW => first9 _ ls W ((G13.out.call Bwr.out).call hW) (by rw [HN.out]; omega) F1.out)
          by_cases hm0 : m = 0
          · subst hm0
            go_wp2_with fail
            have hT0 : (fun _ : World => True) wr.drew := trivial
            refine wp_region_sink (S := (fun _ : World => True)) (n := 1000) (by kernel_rfl) ?_
            change wpSink _ _ _ _ _ 1000 20 _ _ _
            refine sink_take1 (i := 0) (d := some 133) (v := ?_) rfl rfl (by kernel_rfl) (by decide) (by kernel_rfl) (by kernel_rfl) (fun _ _ _ h => h) (Or.inl ⟨by rfl, ?_⟩) hT0 ?_
            rotate_left
            · intro wz hSw
              (try dsimp only at hSw)
              go_simp
              (try with_reducible rfl)
            try simp only [Act.put, List.setIfInBounds_toArray, List.set_cons_zero, List.set_cons_succ]
            refine sink_take1 (i := 1) (d := some 134) (v := ?_) rfl rfl (by kernel_rfl) (by decide) (by kernel_rfl) (by kernel_rfl) (fun _ _ _ h => h) (Or.inl ⟨by rfl, ?_⟩) hT0 ?_
            rotate_left
            · intro wz hSw
              (try dsimp only at hSw)
              go_simp
              (try with_reducible rfl)
            try simp only [Act.put, List.setIfInBounds_toArray, List.set_cons_zero, List.set_cons_succ]
            refine sink_one (i := 2) (by kernel_rfl) ?_
            refine wpOp_step rfl (fun K' hK => ?_)
            have HKK := Lib.hid hK
            clear hK
            rw [if_pos (by rfl)]
            go_simp
            refine (X16.out _ ((Below.refl _ _).drew)).mono ?_
            rintro e z1 ⟨rfl, hq1⟩
            have Z1 := Lib.hid (((Below.refl wr.heap.size wr).drew).trans (drB hq1 _))
            have hT1 : (fun _ : World => True) z1 := trivial
            clear hq1
            refine HKK.out _ _ ⟨Or.inr hT1, ?_⟩
            clear HKK
            try simp only [Act.put, List.setIfInBounds_toArray, List.set_cons_zero, List.set_cons_succ]
            refine sink_take1 (i := 3) (d := some 136) (v := ?_) rfl rfl (by kernel_rfl) (by decide) (by kernel_rfl) (by kernel_rfl) (fun _ _ _ h => h) (Or.inl ⟨by rfl, ?_⟩) hT1 ?_
            rotate_left
            · intro wz hSw
              (try dsimp only at hSw)
              go_simp
              (try with_reducible rfl)
            try simp only [Act.put, List.setIfInBounds_toArray, List.set_cons_zero, List.set_cons_succ]
            refine sink_take1 (i := 4) (d := some 137) (v := ?_) rfl rfl (by kernel_rfl) (by decide) (by kernel_rfl) (by kernel_rfl) (fun _ _ _ h => h) (Or.inl ⟨by rfl, ?_⟩) hT1 ?_
            rotate_left
            · intro wz hSw
              (try dsimp only at hSw)
              go_simp
              (try with_reducible rfl)
            try simp only [Act.put, List.setIfInBounds_toArray, List.set_cons_zero, List.set_cons_succ]
            refine sink_take1 (i := 5) (d := some 138) (v := ?_) rfl rfl (by kernel_rfl) (by decide) (by kernel_rfl) (by kernel_rfl) (fun _ _ _ h => h) (Or.inl ⟨by rfl, ?_⟩) hT1 ?_
            rotate_left
            · intro wz hSw
              (try dsimp only at hSw)
              go_simp
              (try with_reducible rfl)
            try simp only [Act.put, List.setIfInBounds_toArray, List.set_cons_zero, List.set_cons_succ]
            refine sink_take1 (i := 6) (d := some 139) (v := ?_) rfl rfl (by kernel_rfl) (by decide) (by kernel_rfl) (by kernel_rfl) (fun _ _ _ h => h) (Or.inl ⟨by rfl, ?_⟩) hT1 ?_
            rotate_left
            · intro wz hSw
              (try dsimp only at hSw)
              go_simp
              (try with_reducible rfl)
            try simp only [Act.put, List.setIfInBounds_toArray, List.set_cons_zero, List.set_cons_succ]
            refine sink_take1 (i := 7) (d := some 140) (v := ?_) rfl rfl (by kernel_rfl) (by decide) (by kernel_rfl) (by kernel_rfl) (fun _ _ _ h => h) (Or.inl ⟨by rfl, ?_⟩) hT1 ?_
            rotate_left
            · intro wz hSw
              (try dsimp only at hSw)
              go_simp
              (try with_reducible rfl)
            try simp only [Act.put, List.setIfInBounds_toArray, List.set_cons_zero, List.set_cons_succ]
            refine sink_take1 (i := 8) (d := some 141) (v := undef) rfl rfl (by kernel_rfl) (by decide) (by kernel_rfl) (by kernel_rfl) (fun _ _ _ h => h) (Or.inr ⟨by kernel_rfl, rfl⟩) hT1 ?_
            try simp only [Act.put, List.setIfInBounds_toArray, List.set_cons_zero, List.set_cons_succ]
            refine sink_take1 (i := 9) (d := some 142) (v := undef) rfl rfl (by kernel_rfl) (by decide) (by kernel_rfl) (by kernel_rfl) (fun _ _ _ h => h) (Or.inr ⟨by kernel_rfl, rfl⟩) hT1 ?_
            try simp only [Act.put, List.setIfInBounds_toArray, List.set_cons_zero, List.set_cons_succ]
            refine sink_take1 (i := 10) (d := some 143) (v := undef) rfl rfl (by kernel_rfl) (by decide) (by kernel_rfl) (by kernel_rfl) (fun _ _ _ h => h) (Or.inr ⟨by kernel_rfl, rfl⟩) hT1 ?_
            try simp only [Act.put, List.setIfInBounds_toArray, List.set_cons_zero, List.set_cons_succ]
            refine sink_take1 (i := 11) (d := some 144) (v := undef) rfl rfl (by kernel_rfl) (by decide) (by kernel_rfl) (by kernel_rfl) (fun _ _ _ h => h) (Or.inr ⟨by kernel_rfl, rfl⟩) hT1 ?_
            try simp only [Act.put, List.setIfInBounds_toArray, List.set_cons_zero, List.set_cons_succ]
            refine sink_take1 (i := 12) (d := some 145) (v := undef) rfl rfl (by kernel_rfl) (by decide) (by kernel_rfl) (by kernel_rfl) (fun _ _ _ h => h) (Or.inr ⟨by kernel_rfl, rfl⟩) hT1 ?_
            try simp only [Act.put, List.setIfInBounds_toArray, List.set_cons_zero, List.set_cons_succ]
            refine sink_take1 (i := 13) (d := some 146) (v := undef) rfl rfl (by kernel_rfl) (by decide) (by kernel_rfl) (by kernel_rfl) (fun _ _ _ h => h) (Or.inr ⟨by kernel_rfl, rfl⟩) hT1 ?_
            try simp only [Act.put, List.setIfInBounds_toArray, List.set_cons_zero, List.set_cons_succ]
            refine sink_take1 (i := 14) (d := some 147) (v := ?_) rfl rfl (by kernel_rfl) (by decide) (by kernel_rfl) (by kernel_rfl) (fun _ _ _ h => h) (Or.inl ⟨by rfl, ?_⟩) hT1 ?_
            rotate_left
            · intro wz hSw
              (try dsimp only at hSw)
              go_simp
              (try with_reducible rfl)
            try simp only [Act.put, List.setIfInBounds_toArray, List.set_cons_zero, List.set_cons_succ]
            refine sink_take1 (i := 15) (d := some 148) (v := ?_) rfl rfl (by kernel_rfl) (by decide) (by kernel_rfl) (by kernel_rfl) (fun _ _ _ h => h) (Or.inl ⟨by rfl, ?_⟩) hT1 ?_
            rotate_left
            · intro wz hSw
              (try dsimp only at hSw)
              go_simp
              (try with_reducible rfl)
            try simp only [Act.put, List.setIfInBounds_toArray, List.set_cons_zero, List.set_cons_succ]
            refine sink_take1 (i := 16) (d := some 149) (v := ?_) rfl rfl (by kernel_rfl) (by decide) (by kernel_rfl) (by kernel_rfl) (fun _ _ _ h => h) (Or.inl ⟨by rfl, ?_⟩) hT1 ?_
            rotate_left
            · intro wz hSw
              (try dsimp only at hSw)
              go_simp
              (try with_reducible rfl)
            try simp only [Act.put, List.setIfInBounds_toArray, List.set_cons_zero, List.set_cons_succ]
            refine sink_one (i := 17) (by kernel_rfl) ?_
            refine wpOp_step rfl (fun K' hK => ?_)
            have HKK := Lib.hid hK
            clear hK
            rw [if_pos (by rfl)]
            go_simp
            refine (rankRuns_any _).mono ?_
            rintro e z3 ⟨rfl, hq3⟩
            have Z3 := Lib.hid (Z1.out.trans (hq3.mono Z1.out.size))
            have hT3 : (fun _ : World => True) z3 := trivial
            clear hq3
            refine HKK.out _ _ ⟨Or.inr hT3, ?_⟩
            clear HKK
            try simp only [Act.put, List.setIfInBounds_toArray, List.set_cons_zero, List.set_cons_succ]
            refine sink_take1 (i := 18) (d := some 151) (v := ?_) rfl rfl (by kernel_rfl) (by decide) (by kernel_rfl) (by kernel_rfl) (fun _ _ _ h => h) (Or.inl ⟨by rfl, ?_⟩) hT3 ?_
            rotate_left
            · intro wz hSw
              (try dsimp only at hSw)
              go_simp
              (try with_reducible rfl)
            try simp only [Act.put, List.setIfInBounds_toArray, List.set_cons_zero, List.set_cons_succ]
            refine sink_take1 (i := 19) (d := some 6) (v := ?_) rfl rfl (by kernel_rfl) (by decide) (by kernel_rfl) (by kernel_rfl) (fun _ _ _ h => h) (Or.inl ⟨by rfl, ?_⟩) hT3 ?_
            rotate_left
            · intro wz hSw
              (try dsimp only at hSw)
              go_simp
              (try with_reducible rfl)
            try simp only [Act.put, List.setIfInBounds_toArray, List.set_cons_zero, List.set_cons_succ]
            refine sink_done (by kernel_rfl) ?_
            go_wp2
            go_ret
            exact ⟨rfl, BWr.out.trans (Z3.out.mono BWr.out.size)⟩
          · have q0 : ((m : Int) == 0) = false := by simp; omega
            have FF : Hid (fi ls ls.length = (ps.getD 0 0 : Nat)) := places_first Pa.out (by rw [HN.out]; omega)
            obtain ⟨Aa', ca', hva, hcxa⟩ := (Na13.out.call Bwr.out).at2
            rw [la.out] at hva hcxa
            simp only [Value.slice.injEq] at hva
            obtain ⟨rfl, -, rfl⟩ := hva
            obtain ⟨ba, oa, rfl, ga⟩ := hcxa 0 (by omega)
            rw [Nat.add_zero] at ga
            clear hcxa
            generalize ps.getD 0 0 = p at *
            have f0 : (0 : Int) < (m : Int) := by omega
            have f1 : 0 < m := by omega
            have KT : Hid (∀ W, Below wr.heap.size wr W → (fun W : World => W.cell? ⟨ba, oa, none⟩ = some (.int .i64 (p : Nat))) W) := fun W hW => by
              show W.cell? _ = _
              rw [hW.cell (World.block_lt_of_cell? _ _ ga)]
              exact ga
            go_wp2_with fail
            have hT0 : (fun W : World => W.cell? ⟨ba, oa, none⟩ = some (.int .i64 (p : Nat))) wr.drew := ga
            refine wp_region_sink (S := (fun W : World => W.cell? ⟨ba, oa, none⟩ = some (.int .i64 (p : Nat)))) (n := 1000) (by kernel_rfl) ?_
            change wpSink _ _ _ _ _ 1000 20 _ _ _
            refine sink_take1 (i := 0) (d := some 133) (v := ?_) rfl rfl (by kernel_rfl) (by decide) (by kernel_rfl) (by kernel_rfl) (fun _ _ _ h => h) (Or.inl ⟨by rfl, ?_⟩) hT0 ?_
            rotate_left
            · intro wz hSw
              (try dsimp only at hSw)
              go_simp
              (try with_reducible rfl)
            try simp only [Act.put, List.setIfInBounds_toArray, List.set_cons_zero, List.set_cons_succ]
            refine sink_take1 (i := 1) (d := some 134) (v := ?_) rfl rfl (by kernel_rfl) (by decide) (by kernel_rfl) (by kernel_rfl) (fun _ _ _ h => h) (Or.inl ⟨by rfl, ?_⟩) hT0 ?_
            rotate_left
            · intro wz hSw
              (try dsimp only at hSw)
              go_simp
              (try with_reducible rfl)
            try simp only [Act.put, List.setIfInBounds_toArray, List.set_cons_zero, List.set_cons_succ]
            refine sink_one (i := 2) (by kernel_rfl) ?_
            refine wpOp_step rfl (fun K' hK => ?_)
            have HKK := Lib.hid hK
            clear hK
            rw [if_pos (by rfl)]
            go_simp
            refine (X16.out _ ((Below.refl _ _).drew)).mono ?_
            rintro e z1 ⟨rfl, hq1⟩
            have Z1 := Lib.hid (((Below.refl wr.heap.size wr).drew).trans (drB hq1 _))
            have hT1 : (fun W : World => W.cell? ⟨ba, oa, none⟩ = some (.int .i64 (p : Nat))) z1 := (KT.out _ Z1.out)
            clear hq1
            refine HKK.out _ _ ⟨Or.inr hT1, ?_⟩
            clear HKK
            try simp only [Act.put, List.setIfInBounds_toArray, List.set_cons_zero, List.set_cons_succ]
            refine sink_take1 (i := 3) (d := some 136) (v := ?_) rfl rfl (by kernel_rfl) (by decide) (by kernel_rfl) (by kernel_rfl) (fun _ _ _ h => h) (Or.inl ⟨by rfl, ?_⟩) hT1 ?_
            rotate_left
            · intro wz hSw
              (try dsimp only at hSw)
              go_simp
              (try with_reducible rfl)
            try simp only [Act.put, List.setIfInBounds_toArray, List.set_cons_zero, List.set_cons_succ]
            refine sink_take1 (i := 4) (d := some 137) (v := ?_) rfl rfl (by kernel_rfl) (by decide) (by kernel_rfl) (by kernel_rfl) (fun _ _ _ h => h) (Or.inl ⟨by rfl, ?_⟩) hT1 ?_
            rotate_left
            · intro wz hSw
              (try dsimp only at hSw)
              go_simp
              (try with_reducible rfl)
            try simp only [Act.put, List.setIfInBounds_toArray, List.set_cons_zero, List.set_cons_succ]
            refine sink_take1 (i := 5) (d := some 138) (v := ?_) rfl rfl (by kernel_rfl) (by decide) (by kernel_rfl) (by kernel_rfl) (fun _ _ _ h => h) (Or.inl ⟨by rfl, ?_⟩) hT1 ?_
            rotate_left
            · intro wz hSw
              (try dsimp only at hSw)
              go_simp
              (try with_reducible rfl)
            try simp only [Act.put, List.setIfInBounds_toArray, List.set_cons_zero, List.set_cons_succ]
            refine sink_take1 (i := 6) (d := some 139) (v := ?_) rfl rfl (by kernel_rfl) (by decide) (by kernel_rfl) (by kernel_rfl) (fun _ _ _ h => h) (Or.inl ⟨by rfl, ?_⟩) hT1 ?_
            rotate_left
            · intro wz hSw
              (try dsimp only at hSw)
              go_simp
              (try with_reducible rfl)
            try simp only [Act.put, List.setIfInBounds_toArray, List.set_cons_zero, List.set_cons_succ]
            refine sink_take1 (i := 7) (d := some 140) (v := ?_) rfl rfl (by kernel_rfl) (by decide) (by kernel_rfl) (by kernel_rfl) (fun _ _ _ h => h) (Or.inl ⟨by rfl, ?_⟩) hT1 ?_
            rotate_left
            · intro wz hSw
              (try dsimp only at hSw)
              go_simp
              (try with_reducible rfl)
            try simp only [Act.put, List.setIfInBounds_toArray, List.set_cons_zero, List.set_cons_succ]
            refine sink_take1 (i := 8) (d := some 141) (v := ?_) rfl rfl (by kernel_rfl) (by decide) (by kernel_rfl) (by kernel_rfl) (fun _ _ _ h => h) (Or.inl ⟨by rfl, ?_⟩) hT1 ?_
            rotate_left
            · intro wz hSw
              (try dsimp only at hSw)
              go_simp
              (try with_reducible rfl)
            try simp only [Act.put, List.setIfInBounds_toArray, List.set_cons_zero, List.set_cons_succ]
            refine sink_take1 (i := 10) (d := some 143) (v := ?_) rfl rfl (by kernel_rfl) (by decide) (by kernel_rfl) (by kernel_rfl) (fun _ _ _ h => h) (Or.inl ⟨by rfl, ?_⟩) hT1 ?_
            rotate_left
            · intro wz hSw
              (try dsimp only at hSw)
              go_simp
              (try with_reducible rfl)
            try simp only [Act.put, List.setIfInBounds_toArray, List.set_cons_zero, List.set_cons_succ]
            refine sink_take1 (i := 11) (d := some 144) (v := ?_) rfl rfl (by kernel_rfl) (by decide) (by kernel_rfl) (by kernel_rfl) (fun _ _ _ h => h) (Or.inl ⟨by rfl, ?_⟩) hT1 ?_
            rotate_left
            · intro wz hSw
              (try dsimp only at hSw)
              go_simp
              (try with_reducible rfl)
            try simp only [Act.put, List.setIfInBounds_toArray, List.set_cons_zero, List.set_cons_succ]
            refine sink_take1 (i := 12) (d := some 145) (v := ?_) rfl rfl (by kernel_rfl) (by decide) (by kernel_rfl) (by kernel_rfl) (fun _ _ _ h => h) (Or.inl ⟨by rfl, ?_⟩) hT1 ?_
            rotate_left
            · intro wz hSw
              (try dsimp only at hSw)
              go_simp
              (try with_reducible rfl)
            try simp only [Act.put, List.setIfInBounds_toArray, List.set_cons_zero, List.set_cons_succ]
            refine sink_one (i := 9) (by kernel_rfl) ?_
            refine wpOp_step rfl (fun K' hK => ?_)
            have HKK := Lib.hid hK
            clear hK
            rw [if_pos (by rfl)]
            go_simp
            refine (X9.out _ Z1.out).mono ?_
            rintro e z2 ⟨rfl, hq2⟩
            have Z2 := Lib.hid (Z1.out.trans (drB hq2 _))
            rw [FF.out]
            have hT2 : (fun W : World => W.cell? ⟨ba, oa, none⟩ = some (.int .i64 (p : Nat))) z2 := (KT.out _ Z2.out)
            clear hq2
            refine HKK.out _ _ ⟨Or.inr hT2, ?_⟩
            clear HKK
            try simp only [Act.put, List.setIfInBounds_toArray, List.set_cons_zero, List.set_cons_succ]
            refine sink_take1 (i := 13) (d := some 146) (v := ?_) rfl rfl (by kernel_rfl) (by decide) (by kernel_rfl) (by kernel_rfl) (fun _ _ _ h => h) (Or.inl ⟨by rfl, ?_⟩) hT2 ?_
            rotate_left
            · intro wz hSw
              (try dsimp only at hSw)
              go_simp
              (try with_reducible rfl)
            try simp only [Act.put, List.setIfInBounds_toArray, List.set_cons_zero, List.set_cons_succ]
            refine sink_take1 (i := 14) (d := some 147) (v := ?_) rfl rfl (by kernel_rfl) (by decide) (by kernel_rfl) (by kernel_rfl) (fun _ _ _ h => h) (Or.inl ⟨by rfl, ?_⟩) hT2 ?_
            rotate_left
            · intro wz hSw
              (try dsimp only at hSw)
              go_simp
              (try with_reducible rfl)
            try simp only [Act.put, List.setIfInBounds_toArray, List.set_cons_zero, List.set_cons_succ]
            refine sink_take1 (i := 15) (d := some 148) (v := ?_) rfl rfl (by kernel_rfl) (by decide) (by kernel_rfl) (by kernel_rfl) (fun _ _ _ h => h) (Or.inl ⟨by rfl, ?_⟩) hT2 ?_
            rotate_left
            · intro wz hSw
              (try dsimp only at hSw)
              go_simp
              (try with_reducible rfl)
            try simp only [Act.put, List.setIfInBounds_toArray, List.set_cons_zero, List.set_cons_succ]
            refine sink_take1 (i := 16) (d := some 149) (v := ?_) rfl rfl (by kernel_rfl) (by decide) (by kernel_rfl) (by kernel_rfl) (fun _ _ _ h => h) (Or.inl ⟨by rfl, ?_⟩) hT2 ?_
            rotate_left
            · intro wz hSw
              (try dsimp only at hSw)
              go_simp
              (try with_reducible rfl)
            try simp only [Act.put, List.setIfInBounds_toArray, List.set_cons_zero, List.set_cons_succ]
            refine sink_one (i := 17) (by kernel_rfl) ?_
            refine wpOp_step rfl (fun K' hK => ?_)
            have HKK := Lib.hid hK
            clear hK
            rw [if_pos (by rfl)]
            go_simp
            refine (rankRuns_any _).mono ?_
            rintro e z3 ⟨rfl, hq3⟩
            have Z3 := Lib.hid (Z2.out.trans (hq3.mono Z2.out.size))
            have hT3 : (fun W : World => W.cell? ⟨ba, oa, none⟩ = some (.int .i64 (p : Nat))) z3 := (KT.out _ Z3.out)
            clear hq3
            refine HKK.out _ _ ⟨Or.inr hT3, ?_⟩
            clear HKK
            try simp only [Act.put, List.setIfInBounds_toArray, List.set_cons_zero, List.set_cons_succ]
            refine sink_take1 (i := 18) (d := some 151) (v := ?_) rfl rfl (by kernel_rfl) (by decide) (by kernel_rfl) (by kernel_rfl) (fun _ _ _ h => h) (Or.inl ⟨by rfl, ?_⟩) hT3 ?_
            rotate_left
            · intro wz hSw
              (try dsimp only at hSw)
              go_simp
              (try with_reducible rfl)
            try simp only [Act.put, List.setIfInBounds_toArray, List.set_cons_zero, List.set_cons_succ]
            refine sink_take1 (i := 19) (d := some 6) (v := ?_) rfl rfl (by kernel_rfl) (by decide) (by kernel_rfl) (by kernel_rfl) (fun _ _ _ h => h) (Or.inl ⟨by rfl, ?_⟩) hT3 ?_
            rotate_left
            · intro wz hSw
              (try dsimp only at hSw)
              go_simp
              (try with_reducible rfl)
            try simp only [Act.put, List.setIfInBounds_toArray, List.set_cons_zero, List.set_cons_succ]
            refine sink_done (by kernel_rfl) ?_
            go_wp2
            go_ret
            exact ⟨rfl, BWr.out.trans (Z3.out.mono BWr.out.size)⟩
end Go.Proofs.Ytapfepmioiacbaa
