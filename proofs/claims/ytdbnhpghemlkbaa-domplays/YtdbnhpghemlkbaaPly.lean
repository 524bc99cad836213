/-
  The walk of DomPlays.
-/
import Derived.Test.YtdbnhpghemlkbaaTwd
import Derived.Test.YtdbnhpghemlkbaaAin
import Derived.Deep.CutBlock
import Derived.Deep.DeepCutAuto
import Derived.Laws.BytesArg
namespace Go.Proofs.Ytdbnhpghemlkbaa
open Go.RowKit Go.PlainAid Go.Maps Dm
set_option maxRecDepth 100000

def Pl (w0 : World) (D E n : Nat) (w : World) : Prop := ∃ s, Two w0 D E s s [] w ∧ Inv s ∧ Fit s ∧ s.top ≤ n
theorem Pl.mono {w0 w : World} {D E n m : Nat} (h : Pl w0 D E n w) (hm : n ≤ m) : Pl w0 D E m w := by
  obtain ⟨s, h1, h2, h3, h4⟩ := h
  exact ⟨s, h1, h2, h3, Nat.le_trans h4 hm⟩
theorem Pl.bw {w0 w : World} {D E n : Nat} (h : Pl w0 D E n w) : Below w0.heap.size w0 w := by
  obtain ⟨s, h1, _⟩ := h
  exact h1.bw
theorem pl_new {w0 w : World} {D E : Nat} (h : Two w0 D E St.new St.new [] w) : Pl w0 D E 1 w := ⟨_, h, inv_new, fit_new, Nat.le_refl _⟩
theorem pl_of {w0 w : World} {D E n : Nat} {s : St} {K : List (Nat × Obj)} (h : Two w0 D E s s K w) (hv : Inv s) (hf : Fit s) (ht : s.top ≤ n) : Pl w0 D E n w := ⟨s, h.sub (fun _ hx => absurd hx (List.not_mem_nil)), hv, hf, ht⟩
def akO (q : Ak) : Obj := .cells #[.int .i64 q.k, .int .i64 q.a, .int .i64 q.b, .int .i64 q.t, .string q.s] 41 (0, 0)
set_option maxHeartbeats 12800000 in
theorem plays4 (v : Value) (l : Nat × (Nat → Ak)) (w : World) (h0 : Aks w v l.1 l.2) :
    Calls Try.prog 4 #[v] w fun e w' => e = .returned (.bool true) ∧ Below w.heap.size w w' := by
  obtain ⟨n, f⟩ := l
  replace h0 : Aks w v n f := h0
  obtain ⟨A, c, rfl, -, -⟩ := id h0
  have I0 := Lib.hid h0
  clear h0
  go_enter Try.func4, Try.ntmps4
  go_wp2_with fail
  refine (new7 w).mono ?_
  rintro e w1 he
  obtain ⟨D, ro1, rfl, M1⟩ := he.mine
  replace M1 := Lib.hid M1
  clear he
  go_wp2_with fail
  refine (new17 w1).mono ?_
  rintro e w2 he
  obtain ⟨E, rfl, T0⟩ := two_new M1.out he
  have G1 := Lib.hid (pl_new T0)
  clear he M1 T0
  go_wp2_with fail
  go_loopw [5, 3] (fun p5 p3 wr => ∃ (j D : Nat), j ≤ 40 ∧ p5 = .int .i64 j ∧ p3 = .pointer (some ⟨D, 0, none⟩) ∧ Hid (Pl w D E (1 + j) wr)) (fun p _ _ => 40 - (intOf p).toNat)
  case atStart => exact ⟨0, D, by decide, rfl, rfl, G1⟩
  case round =>
    clear G1
    obtain ⟨j, D, hj, rfl, rfl, G⟩ := hrel
    by_cases hjn : j < n
    · have d0 : (j : Int) < (n : Int) := by omega
      by_cases hj4 : j < 40
      · have d1 : (j : Int) < 40 := by omega
        obtain ⟨A', c', eA, _, hA⟩ := I0.out.call G.out.bw
        cases eA
        obtain ⟨b, o, rfl, c0, c1, c2, c3, c4⟩ := hA j hjn
        clear hA
        generalize f j = q at *
        obtain ⟨s, T, hv, hf, ht⟩ := G.out
        have TA := Lib.hid (T.alloc (akO q))
        have HV := Lib.hid hv
        have HF := Lib.hid hf
        clear T hv hf G
        go_upto_region 8 with fail
        clear c0 c1 c2 c3 c4
        change Hid (Two w D E s s [(wr.heap.size, akO q)] (wr.alloc (.cells #[.int .i64 q.k, .int .i64 q.a, .int .i64 q.b, .int .i64 q.t, .string q.s] 41 (0, 0)))) at TA
        generalize World.alloc _ _ = wq at *
        generalize wr.heap.size = qb at *
        have hb := TA.out.at (by simp : (qb, akO q) ∈ [(qb, akO q)])
        have c0 : wq.cell? ⟨qb, 0, none⟩ = some (.int .i64 q.k) := by rw [blk_cell hb]; rfl
        have c1 : wq.cell? ⟨qb, 1, none⟩ = some (.int .i64 q.a) := by rw [blk_cell hb]; rfl
        have c2 : wq.cell? ⟨qb, 2, none⟩ = some (.int .i64 q.b) := by rw [blk_cell hb]; rfl
        have c3 : wq.cell? ⟨qb, 3, none⟩ = some (.int .i64 q.t) := by rw [blk_cell hb]; rfl
        have c4 : wq.cell? ⟨qb, 4, none⟩ = some (.string q.s) := by rw [blk_cell hb]; rfl
        have SH : Hid (∀ W : World, W.heap[qb]? = some (akO q) → W.cell? ⟨qb, 1, none⟩ = some (.int .i64 q.a) ∧ W.cell? ⟨qb, 2, none⟩ = some (.int .i64 q.b) ∧ W.cell? ⟨qb, 3, none⟩ = some (.int .i64 q.t)) := fun W hW => ⟨by rw [blk_cell hW]; rfl, by rw [blk_cell hW]; rfl, by rw [blk_cell hW]; rfl⟩
        have HB := Lib.hid hb
        clear hb
        go_cut [7] (fun p7 wz => wz = wq ∧ ∃ x : ByteArray, p7 = .string x)
        case first =>
          go_wp2_with fail
          go_wp2_with fail
          go_meet
          exact ⟨rfl, _, rfl⟩
        case rest =>
          obtain ⟨rfl, x, rfl⟩ := hcut
          go_upto_block 2 with fail
          go_cut [8, 3, 36] (fun p8 p3 p36 wz => p8 = .bool true ∧ ∃ (D : Nat), p3 = .pointer (some ⟨D, 0, none⟩) ∧ Hid (Pl w D E (2 + j) wz))
          case first =>
            have TD := Lib.hid (TA.out.call (Below.refl _ wc).drew)
            by_cases k1 : q.k = 1
            · go_wp2_with fail
              refine (two_el TA.out HV.out (by omega) x _).mono ?_
              rintro e w5 ⟨rfl, T5⟩
              replace T5 := Lib.hid T5
              go_wp2_with fail
              refine (two_make T5.out HV.out (by omega) x _ _).mono ?_
              rintro e w6 ⟨rfl, T6⟩
              replace T6 := Lib.hid T6
              go_wp2_with fail
              go_meet
              have ht2 := (top_make HV.out (newNd x ⟨#[107]⟩ ⟨#[]⟩)).2
              exact ⟨rfl, D, rfl, pl_of T6.out (inv_new_node HV.out _ _ _) (fit_newNd HF.out _ _ _) (by omega)⟩
            by_cases k2 : q.k = 2
            · go_wp2_with fail
              refine (two_text TA.out HV.out (by omega) x).mono ?_
              rintro e w5 ⟨rfl, T5⟩
              replace T5 := Lib.hid T5
              go_wp2_with fail
              refine (two_make T5.out HV.out (by omega) ⟨#[]⟩ ⟨#[]⟩ x).mono ?_
              rintro e w6 ⟨rfl, T6⟩
              replace T6 := Lib.hid T6
              go_wp2_with fail
              go_meet
              have ht2 := (top_make HV.out (newNd ⟨#[]⟩ ⟨#[]⟩ x)).2
              exact ⟨rfl, D, rfl, pl_of T6.out (inv_new_node HV.out _ _ _) (fit_newNd HF.out _ _ _) (by omega)⟩
            by_cases k3 : q.k = 3
            · obtain ⟨r, s2, hs2, OA⟩ := op_attrs HV.out HF.out q.a x ⟨#[118]⟩
              replace OA := Lib.hid OA
              go_upto_region 16 with fail
              refine wp_region_pre 15 (0 :: 1 :: 2 :: 3 :: 4 :: 7 :: 8 :: 9 :: 10 :: 11 :: []) 6 (fun W => W.heap[qb]? = some (akO q)) (by kernel_rfl) (by kernel_rfl) (by decide) (by kernel_rfl) (fun d _ _ _ _ h => by cases d <;> exact h) (TD.out.at (by simp)) ?_
              refine pre_q (d := some 57) (v := ?_) rfl rfl (Or.inl ⟨by rfl, ?_⟩) ?_
              rotate_left
              · intro wz hSw
                obtain ⟨b1, b2, b3⟩ := SH.out wz hSw
                go_simp
                (try with_reducible rfl)
              try simp only [Act.put, List.setIfInBounds_toArray, List.set_cons_zero, List.set_cons_succ]
              refine pre_q (d := some 58) (v := ?_) rfl rfl (Or.inl ⟨by rfl, ?_⟩) ?_
              rotate_left
              · intro wz hSw
                obtain ⟨b1, b2, b3⟩ := SH.out wz hSw
                go_simp
                (try with_reducible rfl)
              try simp only [Act.put, List.setIfInBounds_toArray, List.set_cons_zero, List.set_cons_succ]
              refine pre_q (d := some 59) (v := ?_) rfl rfl (Or.inl ⟨by rfl, ?_⟩) ?_
              rotate_left
              · intro wz hSw
                obtain ⟨b1, b2, b3⟩ := SH.out wz hSw
                go_simp
                (try with_reducible rfl)
              try simp only [Act.put, List.setIfInBounds_toArray, List.set_cons_zero, List.set_cons_succ]
              refine pre_q (d := some 60) (v := ?_) rfl rfl (Or.inl ⟨by rfl, ?_⟩) ?_
              rotate_left
              · intro wz hSw
                obtain ⟨b1, b2, b3⟩ := SH.out wz hSw
                go_simp
                (try with_reducible rfl)
              try simp only [Act.put, List.setIfInBounds_toArray, List.set_cons_zero, List.set_cons_succ]
              refine pre_q (d := some 61) (v := ?_) rfl rfl (Or.inl ⟨by rfl, ?_⟩) ?_
              rotate_left
              · intro wz hSw
                obtain ⟨b1, b2, b3⟩ := SH.out wz hSw
                go_simp
                (try with_reducible rfl)
              try simp only [Act.put, List.setIfInBounds_toArray, List.set_cons_zero, List.set_cons_succ]
              refine pre_q (d := some 64) (v := ?_) rfl rfl (Or.inl ⟨by rfl, ?_⟩) ?_
              rotate_left
              · intro wz hSw
                obtain ⟨b1, b2, b3⟩ := SH.out wz hSw
                go_simp
                (try with_reducible rfl)
              try simp only [Act.put, List.setIfInBounds_toArray, List.set_cons_zero, List.set_cons_succ]
              refine pre_q (d := some 65) (v := ?_) rfl rfl (Or.inl ⟨by rfl, ?_⟩) ?_
              rotate_left
              · intro wz hSw
                obtain ⟨b1, b2, b3⟩ := SH.out wz hSw
                go_simp
                (try with_reducible rfl)
              try simp only [Act.put, List.setIfInBounds_toArray, List.set_cons_zero, List.set_cons_succ]
              refine pre_q (d := some 66) (v := ?_) rfl rfl (Or.inl ⟨by rfl, ?_⟩) ?_
              rotate_left
              · intro wz hSw
                obtain ⟨b1, b2, b3⟩ := SH.out wz hSw
                go_simp
                (try with_reducible rfl)
              try simp only [Act.put, List.setIfInBounds_toArray, List.set_cons_zero, List.set_cons_succ]
              refine pre_q (d := some 67) (v := ?_) rfl rfl (Or.inl ⟨by rfl, ?_⟩) ?_
              rotate_left
              · intro wz hSw
                obtain ⟨b1, b2, b3⟩ := SH.out wz hSw
                go_simp
                (try with_reducible rfl)
              try simp only [Act.put, List.setIfInBounds_toArray, List.set_cons_zero, List.set_cons_succ]
              refine pre_q (d := some 68) (v := ?_) rfl rfl (Or.inl ⟨by rfl, ?_⟩) ?_
              rotate_left
              · intro wz hSw
                obtain ⟨b1, b2, b3⟩ := SH.out wz hSw
                go_simp
                (try with_reducible rfl)
              try simp only [Act.put, List.setIfInBounds_toArray, List.set_cons_zero, List.set_cons_succ]
              refine pre_nil ?_
              clear SH TA HB c0 c1 c2 c3 c4
              generalize World.drew wc = wd at *
              refine sinkw_vee (i := 5) (j := 12) (by kernel_rfl) ?_ ?_
              focus
                refine wpOp_step rfl (fun K' hK => ?_)
                have HK := Lib.hid hK
                clear hK
                rw [if_pos (by rfl)]
                go_simp
                have TA := Lib.hid (TD.out.alloc (.cells #[.string x, .string ⟨#[118]⟩] 45 (0, 0)))
                refine HK.out _ _ ⟨Or.inr (TA.out.at (by simp)), ?_⟩
                clear HK
                try change SinkW _ _ _ _ _ _ _ _ (Act.put _ (some 62) _) _
                try simp only [Act.put, List.setIfInBounds_toArray, List.set_cons_zero, List.set_cons_succ]
                generalize World.alloc wd _ = wA at *
                generalize wd.heap.size = bA at *
                refine sinkw_vee (i := 6) (j := 12) (by kernel_rfl) ?_ ?_
                focus
                  refine wpOp_step rfl (fun K' hK => ?_)
                  have HK := Lib.hid hK
                  clear hK
                  rw [if_pos (by rfl)]
                  go_simp
                  refine (OA.out.2.2.1 _ _ _ _ _ _ bA TA.out (by simp [atO])).mono ?_
                  rintro e w19 ⟨rfl, T19⟩
                  replace T19 := Lib.hid T19
                  refine HK.out _ _ ⟨Or.inr (T19.out.at (by simp)), ?_⟩
                  clear HK
                  try change SinkW _ _ _ _ _ _ _ _ (Act.put _ (some 63) _) _
                  try simp only [Act.put, List.setIfInBounds_toArray, List.set_cons_zero, List.set_cons_succ]
                  refine sinkw_one (i := 12) (by kernel_rfl) ?_
                  refine wpOp_step rfl (fun K' hK => ?_)
                  have HK := Lib.hid hK
                  clear hK
                  rw [if_pos (by rfl)]
                  go_simp
                  have TB := Lib.hid (T19.out.alloc (.cells #[.string x, .string ⟨#[118]⟩] 45 (0, 0)))
                  refine HK.out _ _ ⟨Or.inr (TB.out.at (by simp)), ?_⟩
                  clear HK
                  try change SinkW _ _ _ _ _ _ _ _ (Act.put _ (some 69) _) _
                  try simp only [Act.put, List.setIfInBounds_toArray, List.set_cons_zero, List.set_cons_succ]
                  generalize World.alloc w19 _ = wB at *
                  generalize w19.heap.size = bB at *
                  refine sinkw_one (i := 13) (by kernel_rfl) ?_
                  refine wpOp_step rfl (fun K' hK => ?_)
                  have HK := Lib.hid hK
                  clear hK
                  rw [if_pos (by rfl)]
                  go_simp
                  refine (OA.out.2.2.2 _ _ _ _ _ _ bB TB.out (by simp [atO])).mono ?_
                  rintro e w20 ⟨rfl, T20⟩
                  replace T20 := Lib.hid T20
                  refine HK.out _ _ ⟨Or.inr (T20.out.at (by simp)), ?_⟩
                  clear HK
                  try change SinkW _ _ _ _ _ _ _ _ (Act.put _ (some 70) _) _
                  try simp only [Act.put, List.setIfInBounds_toArray, List.set_cons_zero, List.set_cons_succ]
                  refine sinkw_one (i := 14) (by kernel_rfl) ?_
                  refine wpOp_step rfl (fun K' hK => ?_)
                  have HK := Lib.hid hK
                  clear hK
                  rw [if_pos (by rfl)]
                  go_simp
                  refine HK.out _ _ ⟨Or.inr (T20.out.at (by simp)), ?_⟩
                  clear HK
                  try change SinkW _ _ _ _ _ _ _ _ (Act.put _ (some 71) _) _
                  try simp only [Act.put, List.setIfInBounds_toArray, List.set_cons_zero, List.set_cons_succ]
                  refine sinkw_one (i := 15) (by kernel_rfl) ?_
                  refine wpOp_step rfl (fun K' hK => ?_)
                  have HK := Lib.hid hK
                  clear hK
                  rw [if_pos (by rfl)]
                  go_simp
                  refine HK.out _ _ ⟨Or.inl rfl, ?_⟩
                  clear HK
                  try change SinkW _ _ _ _ _ _ _ _ (Act.put _ (some 8) _) _
                  try simp only [Act.put, List.setIfInBounds_toArray, List.set_cons_zero, List.set_cons_succ]
                  refine sinkw_done (by kernel_rfl) ?_
                  go_wp2_with fail
                  go_meet
                  exact ⟨rfl, D, rfl, pl_of T20.out OA.out.1 OA.out.2.1 (by omega)⟩
                focus
                  refine wpOp_step rfl (fun K' hK => ?_)
                  have HK := Lib.hid hK
                  clear hK
                  rw [if_pos (by rfl)]
                  go_simp
                  have TB := Lib.hid (TA.out.alloc (.cells #[.string x, .string ⟨#[118]⟩] 45 (0, 0)))
                  refine HK.out _ _ ⟨Or.inr (TB.out.at (by simp)), ?_⟩
                  clear HK
                  try change SinkW _ _ _ _ _ _ _ _ (Act.put _ (some 69) _) _
                  try simp only [Act.put, List.setIfInBounds_toArray, List.set_cons_zero, List.set_cons_succ]
                  generalize World.alloc wA _ = wB at *
                  generalize wA.heap.size = bB at *
                  refine sinkw_one (i := 6) (by kernel_rfl) ?_
                  refine wpOp_step rfl (fun K' hK => ?_)
                  have HK := Lib.hid hK
                  clear hK
                  rw [if_pos (by rfl)]
                  go_simp
                  refine (OA.out.2.2.1 _ _ _ _ _ _ bA TB.out (by simp [atO])).mono ?_
                  rintro e w19 ⟨rfl, T19⟩
                  replace T19 := Lib.hid T19
                  refine HK.out _ _ ⟨Or.inr (T19.out.at (by simp)), ?_⟩
                  clear HK
                  try change SinkW _ _ _ _ _ _ _ _ (Act.put _ (some 63) _) _
                  try simp only [Act.put, List.setIfInBounds_toArray, List.set_cons_zero, List.set_cons_succ]
                  refine sinkw_one (i := 13) (by kernel_rfl) ?_
                  refine wpOp_step rfl (fun K' hK => ?_)
                  have HK := Lib.hid hK
                  clear hK
                  rw [if_pos (by rfl)]
                  go_simp
                  refine (OA.out.2.2.2 _ _ _ _ _ _ bB T19.out (by simp [atO])).mono ?_
                  rintro e w20 ⟨rfl, T20⟩
                  replace T20 := Lib.hid T20
                  refine HK.out _ _ ⟨Or.inr (T20.out.at (by simp)), ?_⟩
                  clear HK
                  try change SinkW _ _ _ _ _ _ _ _ (Act.put _ (some 70) _) _
                  try simp only [Act.put, List.setIfInBounds_toArray, List.set_cons_zero, List.set_cons_succ]
                  refine sinkw_one (i := 14) (by kernel_rfl) ?_
                  refine wpOp_step rfl (fun K' hK => ?_)
                  have HK := Lib.hid hK
                  clear hK
                  rw [if_pos (by rfl)]
                  go_simp
                  refine HK.out _ _ ⟨Or.inr (T20.out.at (by simp)), ?_⟩
                  clear HK
                  try change SinkW _ _ _ _ _ _ _ _ (Act.put _ (some 71) _) _
                  try simp only [Act.put, List.setIfInBounds_toArray, List.set_cons_zero, List.set_cons_succ]
                  refine sinkw_one (i := 15) (by kernel_rfl) ?_
                  refine wpOp_step rfl (fun K' hK => ?_)
                  have HK := Lib.hid hK
                  clear hK
                  rw [if_pos (by rfl)]
                  go_simp
                  refine HK.out _ _ ⟨Or.inl rfl, ?_⟩
                  clear HK
                  try change SinkW _ _ _ _ _ _ _ _ (Act.put _ (some 8) _) _
                  try simp only [Act.put, List.setIfInBounds_toArray, List.set_cons_zero, List.set_cons_succ]
                  refine sinkw_done (by kernel_rfl) ?_
                  go_wp2_with fail
                  go_meet
                  exact ⟨rfl, D, rfl, pl_of T20.out OA.out.1 OA.out.2.1 (by omega)⟩
              focus
                refine wpOp_step rfl (fun K' hK => ?_)
                have HK := Lib.hid hK
                clear hK
                rw [if_pos (by rfl)]
                go_simp
                have TB := Lib.hid (TD.out.alloc (.cells #[.string x, .string ⟨#[118]⟩] 45 (0, 0)))
                refine HK.out _ _ ⟨Or.inr (TB.out.at (by simp)), ?_⟩
                clear HK
                try change SinkW _ _ _ _ _ _ _ _ (Act.put _ (some 69) _) _
                try simp only [Act.put, List.setIfInBounds_toArray, List.set_cons_zero, List.set_cons_succ]
                generalize World.alloc wd _ = wB at *
                generalize wd.heap.size = bB at *
                refine sinkw_one (i := 5) (by kernel_rfl) ?_
                refine wpOp_step rfl (fun K' hK => ?_)
                have HK := Lib.hid hK
                clear hK
                rw [if_pos (by rfl)]
                go_simp
                have TA := Lib.hid (TB.out.alloc (.cells #[.string x, .string ⟨#[118]⟩] 45 (0, 0)))
                refine HK.out _ _ ⟨Or.inr (TA.out.at (by simp)), ?_⟩
                clear HK
                try change SinkW _ _ _ _ _ _ _ _ (Act.put _ (some 62) _) _
                try simp only [Act.put, List.setIfInBounds_toArray, List.set_cons_zero, List.set_cons_succ]
                generalize World.alloc wB _ = wA at *
                generalize wB.heap.size = bA at *
                refine sinkw_one (i := 6) (by kernel_rfl) ?_
                refine wpOp_step rfl (fun K' hK => ?_)
                have HK := Lib.hid hK
                clear hK
                rw [if_pos (by rfl)]
                go_simp
                refine (OA.out.2.2.1 _ _ _ _ _ _ bA TA.out (by simp [atO])).mono ?_
                rintro e w19 ⟨rfl, T19⟩
                replace T19 := Lib.hid T19
                refine HK.out _ _ ⟨Or.inr (T19.out.at (by simp)), ?_⟩
                clear HK
                try change SinkW _ _ _ _ _ _ _ _ (Act.put _ (some 63) _) _
                try simp only [Act.put, List.setIfInBounds_toArray, List.set_cons_zero, List.set_cons_succ]
                refine sinkw_one (i := 13) (by kernel_rfl) ?_
                refine wpOp_step rfl (fun K' hK => ?_)
                have HK := Lib.hid hK
                clear hK
                rw [if_pos (by rfl)]
                go_simp
                refine (OA.out.2.2.2 _ _ _ _ _ _ bB T19.out (by simp [atO])).mono ?_
                rintro e w20 ⟨rfl, T20⟩
                replace T20 := Lib.hid T20
                refine HK.out _ _ ⟨Or.inr (T20.out.at (by simp)), ?_⟩
                clear HK
                try change SinkW _ _ _ _ _ _ _ _ (Act.put _ (some 70) _) _
                try simp only [Act.put, List.setIfInBounds_toArray, List.set_cons_zero, List.set_cons_succ]
                refine sinkw_one (i := 14) (by kernel_rfl) ?_
                refine wpOp_step rfl (fun K' hK => ?_)
                have HK := Lib.hid hK
                clear hK
                rw [if_pos (by rfl)]
                go_simp
                refine HK.out _ _ ⟨Or.inr (T20.out.at (by simp)), ?_⟩
                clear HK
                try change SinkW _ _ _ _ _ _ _ _ (Act.put _ (some 71) _) _
                try simp only [Act.put, List.setIfInBounds_toArray, List.set_cons_zero, List.set_cons_succ]
                refine sinkw_one (i := 15) (by kernel_rfl) ?_
                refine wpOp_step rfl (fun K' hK => ?_)
                have HK := Lib.hid hK
                clear hK
                rw [if_pos (by rfl)]
                go_simp
                refine HK.out _ _ ⟨Or.inl rfl, ?_⟩
                clear HK
                try change SinkW _ _ _ _ _ _ _ _ (Act.put _ (some 8) _) _
                try simp only [Act.put, List.setIfInBounds_toArray, List.set_cons_zero, List.set_cons_succ]
                refine sinkw_done (by kernel_rfl) ?_
                go_wp2_with fail
                go_meet
                exact ⟨rfl, D, rfl, pl_of T20.out OA.out.1 OA.out.2.1 (by omega)⟩
            by_cases k4 : q.k = 4
            · skip
              obtain ⟨r, s2, hs2, OP⟩ := op_say HV.out HF.out q.a x
              replace OP := Lib.hid OP
              go_upto_region 18 with fail
              refine wp_region_ord ((true, 0) :: (true, 1) :: (true, 2) :: (true, 3) :: (true, 5) :: (true, 6) :: (true, 7) :: (true, 8) :: (false, 4) :: (false, 9) :: (true, 10) :: (true, 11) :: []) (fun W => W.heap[qb]? = some (akO q)) (by kernel_rfl) (by kernel_rfl) (by decide) (by kernel_rfl) (fun d _ _ _ _ h => by cases d <;> exact h) (TD.out.at (by simp)) ?_
              refine ord_q (d := some 74) (v := ?_) rfl rfl (Or.inl ⟨by rfl, ?_⟩) ?_
              rotate_left
              · intro wz hSw
                obtain ⟨b1, b2, b3⟩ := SH.out wz hSw
                go_simp
                (try with_reducible rfl)
              try simp only [Act.put, List.setIfInBounds_toArray, List.set_cons_zero, List.set_cons_succ]
              refine ord_q (d := some 75) (v := ?_) rfl rfl (Or.inl ⟨by rfl, ?_⟩) ?_
              rotate_left
              · intro wz hSw
                obtain ⟨b1, b2, b3⟩ := SH.out wz hSw
                go_simp
                (try with_reducible rfl)
              try simp only [Act.put, List.setIfInBounds_toArray, List.set_cons_zero, List.set_cons_succ]
              refine ord_q (d := some 76) (v := ?_) rfl rfl (Or.inl ⟨by rfl, ?_⟩) ?_
              rotate_left
              · intro wz hSw
                obtain ⟨b1, b2, b3⟩ := SH.out wz hSw
                go_simp
                (try with_reducible rfl)
              try simp only [Act.put, List.setIfInBounds_toArray, List.set_cons_zero, List.set_cons_succ]
              refine ord_q (d := some 77) (v := ?_) rfl rfl (Or.inl ⟨by rfl, ?_⟩) ?_
              rotate_left
              · intro wz hSw
                obtain ⟨b1, b2, b3⟩ := SH.out wz hSw
                go_simp
                (try with_reducible rfl)
              try simp only [Act.put, List.setIfInBounds_toArray, List.set_cons_zero, List.set_cons_succ]
              refine ord_q (d := some 79) (v := ?_) rfl rfl (Or.inl ⟨by rfl, ?_⟩) ?_
              rotate_left
              · intro wz hSw
                obtain ⟨b1, b2, b3⟩ := SH.out wz hSw
                go_simp
                (try with_reducible rfl)
              try simp only [Act.put, List.setIfInBounds_toArray, List.set_cons_zero, List.set_cons_succ]
              refine ord_q (d := some 80) (v := ?_) rfl rfl (Or.inl ⟨by rfl, ?_⟩) ?_
              rotate_left
              · intro wz hSw
                obtain ⟨b1, b2, b3⟩ := SH.out wz hSw
                go_simp
                (try with_reducible rfl)
              try simp only [Act.put, List.setIfInBounds_toArray, List.set_cons_zero, List.set_cons_succ]
              refine ord_q (d := some 81) (v := ?_) rfl rfl (Or.inl ⟨by rfl, ?_⟩) ?_
              rotate_left
              · intro wz hSw
                obtain ⟨b1, b2, b3⟩ := SH.out wz hSw
                go_simp
                (try with_reducible rfl)
              try simp only [Act.put, List.setIfInBounds_toArray, List.set_cons_zero, List.set_cons_succ]
              refine ord_q (d := some 82) (v := ?_) rfl rfl (Or.inl ⟨by rfl, ?_⟩) ?_
              rotate_left
              · intro wz hSw
                obtain ⟨b1, b2, b3⟩ := SH.out wz hSw
                go_simp
                (try with_reducible rfl)
              try simp only [Act.put, List.setIfInBounds_toArray, List.set_cons_zero, List.set_cons_succ]
              refine ord_l ?_
              refine wpOp_step rfl (fun K' hK => ?_)
              have HK := Lib.hid hK
              clear hK
              rw [if_pos (by rfl)]
              go_simp
              refine (OP.out.2.2.1 _ _ _ _ _ _ TD.out).mono ?_
              rintro e w5 ⟨rfl, T5⟩
              replace T5 := Lib.hid T5
              refine HK.out _ _ ⟨(T5.out.at (by simp)), ?_⟩
              clear HK
              try change OrdW _ _ _ _ _ (Act.put _ (some 78) _) _
              try simp only [Act.put, List.setIfInBounds_toArray, List.set_cons_zero, List.set_cons_succ]
              refine ord_l ?_
              refine wpOp_step rfl (fun K' hK => ?_)
              have HK := Lib.hid hK
              clear hK
              rw [if_pos (by rfl)]
              go_simp
              refine (OP.out.2.2.2 _ _ _ _ _ _ T5.out).mono ?_
              rintro e w6 ⟨rfl, T6⟩
              replace T6 := Lib.hid T6
              refine HK.out _ _ ⟨(T6.out.at (by simp)), ?_⟩
              clear HK
              try change OrdW _ _ _ _ _ (Act.put _ (some 83) _) _
              try simp only [Act.put, List.setIfInBounds_toArray, List.set_cons_zero, List.set_cons_succ]
              refine ord_q (d := some 84) (v := ?_) rfl rfl (Or.inl ⟨by rfl, ?_⟩) ?_
              rotate_left
              · intro wz hSw
                obtain ⟨b1, b2, b3⟩ := SH.out wz hSw
                go_simp
                (try with_reducible rfl)
              try simp only [Act.put, List.setIfInBounds_toArray, List.set_cons_zero, List.set_cons_succ]
              refine ord_q (d := some 8) (v := ?_) rfl rfl (Or.inl ⟨by rfl, ?_⟩) ?_
              rotate_left
              · intro wz hSw
                obtain ⟨b1, b2, b3⟩ := SH.out wz hSw
                go_simp
                (try with_reducible rfl)
              try simp only [Act.put, List.setIfInBounds_toArray, List.set_cons_zero, List.set_cons_succ]
              refine ord_nil ?_
              clear SH TD T5
              go_wp2_with fail
              go_meet
              exact ⟨rfl, D, rfl, pl_of T6.out OP.out.1 OP.out.2.1 (by omega)⟩
            by_cases k5 : q.k = 5
            · skip
              obtain ⟨r, s2, hs2, OP⟩ := op_ins HV.out HF.out (by omega) q.a q.b q.t
              replace OP := Lib.hid OP
              go_upto_region 20 with fail
              refine wp_region_ord ((true, 0) :: (true, 1) :: (true, 2) :: (true, 3) :: (true, 4) :: (true, 5) :: (true, 6) :: (true, 8) :: (true, 9) :: (true, 10) :: (true, 11) :: (true, 12) :: (true, 13) :: (true, 14) :: (false, 7) :: (false, 15) :: (true, 16) :: (true, 17) :: []) (fun W => W.heap[qb]? = some (akO q)) (by kernel_rfl) (by kernel_rfl) (by decide) (by kernel_rfl) (fun d _ _ _ _ h => by cases d <;> exact h) (TD.out.at (by simp)) ?_
              refine ord_q (d := some 87) (v := ?_) rfl rfl (Or.inl ⟨by rfl, ?_⟩) ?_
              rotate_left
              · intro wz hSw
                obtain ⟨b1, b2, b3⟩ := SH.out wz hSw
                go_simp
                (try with_reducible rfl)
              try simp only [Act.put, List.setIfInBounds_toArray, List.set_cons_zero, List.set_cons_succ]
              refine ord_q (d := some 88) (v := ?_) rfl rfl (Or.inl ⟨by rfl, ?_⟩) ?_
              rotate_left
              · intro wz hSw
                obtain ⟨b1, b2, b3⟩ := SH.out wz hSw
                go_simp
                (try with_reducible rfl)
              try simp only [Act.put, List.setIfInBounds_toArray, List.set_cons_zero, List.set_cons_succ]
              refine ord_q (d := some 89) (v := ?_) rfl rfl (Or.inl ⟨by rfl, ?_⟩) ?_
              rotate_left
              · intro wz hSw
                obtain ⟨b1, b2, b3⟩ := SH.out wz hSw
                go_simp
                (try with_reducible rfl)
              try simp only [Act.put, List.setIfInBounds_toArray, List.set_cons_zero, List.set_cons_succ]
              refine ord_q (d := some 90) (v := ?_) rfl rfl (Or.inl ⟨by rfl, ?_⟩) ?_
              rotate_left
              · intro wz hSw
                obtain ⟨b1, b2, b3⟩ := SH.out wz hSw
                go_simp
                (try with_reducible rfl)
              try simp only [Act.put, List.setIfInBounds_toArray, List.set_cons_zero, List.set_cons_succ]
              refine ord_q (d := some 91) (v := ?_) rfl rfl (Or.inl ⟨by rfl, ?_⟩) ?_
              rotate_left
              · intro wz hSw
                obtain ⟨b1, b2, b3⟩ := SH.out wz hSw
                go_simp
                (try with_reducible rfl)
              try simp only [Act.put, List.setIfInBounds_toArray, List.set_cons_zero, List.set_cons_succ]
              refine ord_q (d := some 92) (v := ?_) rfl rfl (Or.inl ⟨by rfl, ?_⟩) ?_
              rotate_left
              · intro wz hSw
                obtain ⟨b1, b2, b3⟩ := SH.out wz hSw
                go_simp
                (try with_reducible rfl)
              try simp only [Act.put, List.setIfInBounds_toArray, List.set_cons_zero, List.set_cons_succ]
              refine ord_q (d := some 93) (v := ?_) rfl rfl (Or.inl ⟨by rfl, ?_⟩) ?_
              rotate_left
              · intro wz hSw
                obtain ⟨b1, b2, b3⟩ := SH.out wz hSw
                go_simp
                (try with_reducible rfl)
              try simp only [Act.put, List.setIfInBounds_toArray, List.set_cons_zero, List.set_cons_succ]
              refine ord_q (d := some 95) (v := ?_) rfl rfl (Or.inl ⟨by rfl, ?_⟩) ?_
              rotate_left
              · intro wz hSw
                obtain ⟨b1, b2, b3⟩ := SH.out wz hSw
                go_simp
                (try with_reducible rfl)
              try simp only [Act.put, List.setIfInBounds_toArray, List.set_cons_zero, List.set_cons_succ]
              refine ord_q (d := some 96) (v := ?_) rfl rfl (Or.inl ⟨by rfl, ?_⟩) ?_
              rotate_left
              · intro wz hSw
                obtain ⟨b1, b2, b3⟩ := SH.out wz hSw
                go_simp
                (try with_reducible rfl)
              try simp only [Act.put, List.setIfInBounds_toArray, List.set_cons_zero, List.set_cons_succ]
              refine ord_q (d := some 97) (v := ?_) rfl rfl (Or.inl ⟨by rfl, ?_⟩) ?_
              rotate_left
              · intro wz hSw
                obtain ⟨b1, b2, b3⟩ := SH.out wz hSw
                go_simp
                (try with_reducible rfl)
              try simp only [Act.put, List.setIfInBounds_toArray, List.set_cons_zero, List.set_cons_succ]
              refine ord_q (d := some 98) (v := ?_) rfl rfl (Or.inl ⟨by rfl, ?_⟩) ?_
              rotate_left
              · intro wz hSw
                obtain ⟨b1, b2, b3⟩ := SH.out wz hSw
                go_simp
                (try with_reducible rfl)
              try simp only [Act.put, List.setIfInBounds_toArray, List.set_cons_zero, List.set_cons_succ]
              refine ord_q (d := some 99) (v := ?_) rfl rfl (Or.inl ⟨by rfl, ?_⟩) ?_
              rotate_left
              · intro wz hSw
                obtain ⟨b1, b2, b3⟩ := SH.out wz hSw
                go_simp
                (try with_reducible rfl)
              try simp only [Act.put, List.setIfInBounds_toArray, List.set_cons_zero, List.set_cons_succ]
              refine ord_q (d := some 100) (v := ?_) rfl rfl (Or.inl ⟨by rfl, ?_⟩) ?_
              rotate_left
              · intro wz hSw
                obtain ⟨b1, b2, b3⟩ := SH.out wz hSw
                go_simp
                (try with_reducible rfl)
              try simp only [Act.put, List.setIfInBounds_toArray, List.set_cons_zero, List.set_cons_succ]
              refine ord_q (d := some 101) (v := ?_) rfl rfl (Or.inl ⟨by rfl, ?_⟩) ?_
              rotate_left
              · intro wz hSw
                obtain ⟨b1, b2, b3⟩ := SH.out wz hSw
                go_simp
                (try with_reducible rfl)
              try simp only [Act.put, List.setIfInBounds_toArray, List.set_cons_zero, List.set_cons_succ]
              refine ord_l ?_
              refine wpOp_step rfl (fun K' hK => ?_)
              have HK := Lib.hid hK
              clear hK
              rw [if_pos (by rfl)]
              go_simp
              refine (OP.out.2.2.1 _ _ _ _ _ _ TD.out).mono ?_
              rintro e w5 ⟨rfl, T5⟩
              replace T5 := Lib.hid T5
              refine HK.out _ _ ⟨(T5.out.at (by simp)), ?_⟩
              clear HK
              try change OrdW _ _ _ _ _ (Act.put _ (some 94) _) _
              try simp only [Act.put, List.setIfInBounds_toArray, List.set_cons_zero, List.set_cons_succ]
              refine ord_l ?_
              refine wpOp_step rfl (fun K' hK => ?_)
              have HK := Lib.hid hK
              clear hK
              rw [if_pos (by rfl)]
              go_simp
              refine (OP.out.2.2.2 _ _ _ _ _ _ T5.out).mono ?_
              rintro e w6 ⟨rfl, T6⟩
              replace T6 := Lib.hid T6
              refine HK.out _ _ ⟨(T6.out.at (by simp)), ?_⟩
              clear HK
              try change OrdW _ _ _ _ _ (Act.put _ (some 102) _) _
              try simp only [Act.put, List.setIfInBounds_toArray, List.set_cons_zero, List.set_cons_succ]
              refine ord_q (d := some 103) (v := ?_) rfl rfl (Or.inl ⟨by rfl, ?_⟩) ?_
              rotate_left
              · intro wz hSw
                obtain ⟨b1, b2, b3⟩ := SH.out wz hSw
                go_simp
                (try with_reducible rfl)
              try simp only [Act.put, List.setIfInBounds_toArray, List.set_cons_zero, List.set_cons_succ]
              refine ord_q (d := some 8) (v := ?_) rfl rfl (Or.inl ⟨by rfl, ?_⟩) ?_
              rotate_left
              · intro wz hSw
                obtain ⟨b1, b2, b3⟩ := SH.out wz hSw
                go_simp
                (try with_reducible rfl)
              try simp only [Act.put, List.setIfInBounds_toArray, List.set_cons_zero, List.set_cons_succ]
              refine ord_nil ?_
              clear SH TD T5
              go_wp2_with fail
              go_meet
              exact ⟨rfl, D, rfl, pl_of T6.out OP.out.1 OP.out.2.1 (by omega)⟩
            by_cases k6 : q.k = 6
            · skip
              obtain ⟨r, s2, hs2, OP⟩ := op_det HV.out HF.out (by omega) q.a
              replace OP := Lib.hid OP
              go_upto_region 22 with fail
              refine wp_region_ord ((true, 0) :: (true, 1) :: (true, 2) :: (true, 4) :: (true, 5) :: (true, 6) :: (false, 3) :: (false, 7) :: (true, 8) :: (true, 9) :: []) (fun W => W.heap[qb]? = some (akO q)) (by kernel_rfl) (by kernel_rfl) (by decide) (by kernel_rfl) (fun d _ _ _ _ h => by cases d <;> exact h) (TD.out.at (by simp)) ?_
              refine ord_q (d := some 106) (v := ?_) rfl rfl (Or.inl ⟨by rfl, ?_⟩) ?_
              rotate_left
              · intro wz hSw
                obtain ⟨b1, b2, b3⟩ := SH.out wz hSw
                go_simp
                (try with_reducible rfl)
              try simp only [Act.put, List.setIfInBounds_toArray, List.set_cons_zero, List.set_cons_succ]
              refine ord_q (d := some 107) (v := ?_) rfl rfl (Or.inl ⟨by rfl, ?_⟩) ?_
              rotate_left
              · intro wz hSw
                obtain ⟨b1, b2, b3⟩ := SH.out wz hSw
                go_simp
                (try with_reducible rfl)
              try simp only [Act.put, List.setIfInBounds_toArray, List.set_cons_zero, List.set_cons_succ]
              refine ord_q (d := some 108) (v := ?_) rfl rfl (Or.inl ⟨by rfl, ?_⟩) ?_
              rotate_left
              · intro wz hSw
                obtain ⟨b1, b2, b3⟩ := SH.out wz hSw
                go_simp
                (try with_reducible rfl)
              try simp only [Act.put, List.setIfInBounds_toArray, List.set_cons_zero, List.set_cons_succ]
              refine ord_q (d := some 110) (v := ?_) rfl rfl (Or.inl ⟨by rfl, ?_⟩) ?_
              rotate_left
              · intro wz hSw
                obtain ⟨b1, b2, b3⟩ := SH.out wz hSw
                go_simp
                (try with_reducible rfl)
              try simp only [Act.put, List.setIfInBounds_toArray, List.set_cons_zero, List.set_cons_succ]
              refine ord_q (d := some 111) (v := ?_) rfl rfl (Or.inl ⟨by rfl, ?_⟩) ?_
              rotate_left
              · intro wz hSw
                obtain ⟨b1, b2, b3⟩ := SH.out wz hSw
                go_simp
                (try with_reducible rfl)
              try simp only [Act.put, List.setIfInBounds_toArray, List.set_cons_zero, List.set_cons_succ]
              refine ord_q (d := some 112) (v := ?_) rfl rfl (Or.inl ⟨by rfl, ?_⟩) ?_
              rotate_left
              · intro wz hSw
                obtain ⟨b1, b2, b3⟩ := SH.out wz hSw
                go_simp
                (try with_reducible rfl)
              try simp only [Act.put, List.setIfInBounds_toArray, List.set_cons_zero, List.set_cons_succ]
              refine ord_l ?_
              refine wpOp_step rfl (fun K' hK => ?_)
              have HK := Lib.hid hK
              clear hK
              rw [if_pos (by rfl)]
              go_simp
              refine (OP.out.2.2.1 _ _ _ _ _ _ TD.out).mono ?_
              rintro e w5 ⟨rfl, T5⟩
              replace T5 := Lib.hid T5
              refine HK.out _ _ ⟨(T5.out.at (by simp)), ?_⟩
              clear HK
              try change OrdW _ _ _ _ _ (Act.put _ (some 109) _) _
              try simp only [Act.put, List.setIfInBounds_toArray, List.set_cons_zero, List.set_cons_succ]
              refine ord_l ?_
              refine wpOp_step rfl (fun K' hK => ?_)
              have HK := Lib.hid hK
              clear hK
              rw [if_pos (by rfl)]
              go_simp
              refine (OP.out.2.2.2 _ _ _ _ _ _ T5.out).mono ?_
              rintro e w6 ⟨rfl, T6⟩
              replace T6 := Lib.hid T6
              refine HK.out _ _ ⟨(T6.out.at (by simp)), ?_⟩
              clear HK
              try change OrdW _ _ _ _ _ (Act.put _ (some 113) _) _
              try simp only [Act.put, List.setIfInBounds_toArray, List.set_cons_zero, List.set_cons_succ]
              refine ord_q (d := some 114) (v := ?_) rfl rfl (Or.inl ⟨by rfl, ?_⟩) ?_
              rotate_left
              · intro wz hSw
                obtain ⟨b1, b2, b3⟩ := SH.out wz hSw
                go_simp
                (try with_reducible rfl)
              try simp only [Act.put, List.setIfInBounds_toArray, List.set_cons_zero, List.set_cons_succ]
              refine ord_q (d := some 8) (v := ?_) rfl rfl (Or.inl ⟨by rfl, ?_⟩) ?_
              rotate_left
              · intro wz hSw
                obtain ⟨b1, b2, b3⟩ := SH.out wz hSw
                go_simp
                (try with_reducible rfl)
              try simp only [Act.put, List.setIfInBounds_toArray, List.set_cons_zero, List.set_cons_succ]
              refine ord_nil ?_
              clear SH TD T5
              go_wp2_with fail
              go_meet
              exact ⟨rfl, D, rfl, pl_of T6.out OP.out.1 OP.out.2.1 (by omega)⟩
            by_cases k7 : q.k = 7
            · skip
              obtain ⟨r, s2, hs2, OP⟩ := op_free HV.out HF.out (by omega) q.a
              replace OP := Lib.hid OP
              go_upto_region 24 with fail
              refine wp_region_ord ((true, 0) :: (true, 1) :: (true, 2) :: (true, 4) :: (true, 5) :: (true, 6) :: (false, 3) :: (false, 7) :: (true, 8) :: (true, 9) :: []) (fun W => W.heap[qb]? = some (akO q)) (by kernel_rfl) (by kernel_rfl) (by decide) (by kernel_rfl) (fun d _ _ _ _ h => by cases d <;> exact h) (TD.out.at (by simp)) ?_
              refine ord_q (d := some 117) (v := ?_) rfl rfl (Or.inl ⟨by rfl, ?_⟩) ?_
              rotate_left
              · intro wz hSw
                obtain ⟨b1, b2, b3⟩ := SH.out wz hSw
                go_simp
                (try with_reducible rfl)
              try simp only [Act.put, List.setIfInBounds_toArray, List.set_cons_zero, List.set_cons_succ]
              refine ord_q (d := some 118) (v := ?_) rfl rfl (Or.inl ⟨by rfl, ?_⟩) ?_
              rotate_left
              · intro wz hSw
                obtain ⟨b1, b2, b3⟩ := SH.out wz hSw
                go_simp
                (try with_reducible rfl)
              try simp only [Act.put, List.setIfInBounds_toArray, List.set_cons_zero, List.set_cons_succ]
              refine ord_q (d := some 119) (v := ?_) rfl rfl (Or.inl ⟨by rfl, ?_⟩) ?_
              rotate_left
              · intro wz hSw
                obtain ⟨b1, b2, b3⟩ := SH.out wz hSw
                go_simp
                (try with_reducible rfl)
              try simp only [Act.put, List.setIfInBounds_toArray, List.set_cons_zero, List.set_cons_succ]
              refine ord_q (d := some 121) (v := ?_) rfl rfl (Or.inl ⟨by rfl, ?_⟩) ?_
              rotate_left
              · intro wz hSw
                obtain ⟨b1, b2, b3⟩ := SH.out wz hSw
                go_simp
                (try with_reducible rfl)
              try simp only [Act.put, List.setIfInBounds_toArray, List.set_cons_zero, List.set_cons_succ]
              refine ord_q (d := some 122) (v := ?_) rfl rfl (Or.inl ⟨by rfl, ?_⟩) ?_
              rotate_left
              · intro wz hSw
                obtain ⟨b1, b2, b3⟩ := SH.out wz hSw
                go_simp
                (try with_reducible rfl)
              try simp only [Act.put, List.setIfInBounds_toArray, List.set_cons_zero, List.set_cons_succ]
              refine ord_q (d := some 123) (v := ?_) rfl rfl (Or.inl ⟨by rfl, ?_⟩) ?_
              rotate_left
              · intro wz hSw
                obtain ⟨b1, b2, b3⟩ := SH.out wz hSw
                go_simp
                (try with_reducible rfl)
              try simp only [Act.put, List.setIfInBounds_toArray, List.set_cons_zero, List.set_cons_succ]
              refine ord_l ?_
              refine wpOp_step rfl (fun K' hK => ?_)
              have HK := Lib.hid hK
              clear hK
              rw [if_pos (by rfl)]
              go_simp
              refine (OP.out.2.2.1 _ _ _ _ _ _ TD.out).mono ?_
              rintro e w5 ⟨rfl, T5⟩
              replace T5 := Lib.hid T5
              refine HK.out _ _ ⟨(T5.out.at (by simp)), ?_⟩
              clear HK
              try change OrdW _ _ _ _ _ (Act.put _ (some 120) _) _
              try simp only [Act.put, List.setIfInBounds_toArray, List.set_cons_zero, List.set_cons_succ]
              refine ord_l ?_
              refine wpOp_step rfl (fun K' hK => ?_)
              have HK := Lib.hid hK
              clear hK
              rw [if_pos (by rfl)]
              go_simp
              refine (OP.out.2.2.2 _ _ _ _ _ _ T5.out).mono ?_
              rintro e w6 ⟨rfl, T6⟩
              replace T6 := Lib.hid T6
              refine HK.out _ _ ⟨(T6.out.at (by simp)), ?_⟩
              clear HK
              try change OrdW _ _ _ _ _ (Act.put _ (some 124) _) _
              try simp only [Act.put, List.setIfInBounds_toArray, List.set_cons_zero, List.set_cons_succ]
              refine ord_q (d := some 125) (v := ?_) rfl rfl (Or.inl ⟨by rfl, ?_⟩) ?_
              rotate_left
              · intro wz hSw
                obtain ⟨b1, b2, b3⟩ := SH.out wz hSw
                go_simp
                (try with_reducible rfl)
              try simp only [Act.put, List.setIfInBounds_toArray, List.set_cons_zero, List.set_cons_succ]
              refine ord_q (d := some 8) (v := ?_) rfl rfl (Or.inl ⟨by rfl, ?_⟩) ?_
              rotate_left
              · intro wz hSw
                obtain ⟨b1, b2, b3⟩ := SH.out wz hSw
                go_simp
                (try with_reducible rfl)
              try simp only [Act.put, List.setIfInBounds_toArray, List.set_cons_zero, List.set_cons_succ]
              refine ord_nil ?_
              clear SH TD T5
              go_wp2_with fail
              go_meet
              exact ⟨rfl, D, rfl, pl_of T6.out OP.out.1 OP.out.2.1 (by omega)⟩
            by_cases k8 : q.k = 8
            · go_wp2_with fail
              obtain ⟨ro8, rr8, M8, _⟩ := id TA.out
              have hce := count_eq HV.out
              refine (copy26 _ M8.1 HV.out HF.out (by omega) (by omega)).mono ?_
              rintro e w5 hN
              obtain ⟨Dn, rfl, R5⟩ := Thr.start (n := 1 + j) TA.out HV.out HF.out ht hN
              replace R5 := Lib.hid R5
              clear hN M8 c0 c1 c2 c3 c4
              have c1 : w5.cell? ⟨qb, 1, none⟩ = some (.int .i64 q.a) := by rw [blk_cell (R5.out.at (by simp : (qb, akO q) ∈ [(qb, akO q)]))]; rfl
              go_wp2_with fail
              refine (thr_ins R5.out (by omega) 1 q.a 0).mono ?_
              rintro e w6 ⟨r6, rfl, R6⟩
              replace R6 := Lib.hid R6
              clear R5 c1
              have c2 : w6.cell? ⟨qb, 2, none⟩ = some (.int .i64 q.b) := by rw [blk_cell (R6.out.at (by simp : (qb, akO q) ∈ [(qb, akO q)]))]; rfl
              go_wp2_with fail
              refine (thr_free R6.out (by omega) q.b).mono ?_
              rintro e w7 ⟨r7, rfl, R7⟩
              replace R7 := Lib.hid R7
              clear R6 c2
              go_wp2_with fail
              refine (thr_text R7.out (by omega) _).mono ?_
              rintro e w8 ⟨n8, _, rfl, R8⟩
              replace R8 := Lib.hid R8
              clear R7
              go_wp2_with fail
              go_meet
              exact ⟨rfl, Dn, rfl, pl_of R8.out.two HV.out HF.out (by omega)⟩
            · go_wp2_with fail
              go_meet
              exact ⟨rfl, D, rfl, pl_of TA.out HV.out HF.out (by omega)⟩
          case rest =>
            clear HB TA HV HF c0 c1 c2 c3 c4
            obtain ⟨rfl, D2, rfl, G2⟩ := hcut
            obtain ⟨s2, T2, hv2, hf2, ht2⟩ := G2.out
            have HT2 := Lib.hid T2
            have HV2 := Lib.hid hv2
            have HF2 := Lib.hid hf2
            clear T2 hv2 hf2 G2
            go_wp2_with fail
            refine (two_alike HT2.out HV2.out HF2.out (by omega)).mono ?_
            rintro e w9 ⟨rfl, T9⟩
            replace T9 := Lib.hid T9
            go_wp2_with fail
            go_roundw
            case rel => exact ⟨j + 1, D2, by omega, by go_num, rfl, pl_of T9.out HV2.out HF2.out (by omega)⟩
            case measure => simp [intOf]; omega
      · have d1 : ¬ (j : Int) < 40 := by omega
        go_wp2_with fail
        refine (runs3 _).mono ?_
        rintro e w9 ⟨rfl, hb9⟩
        go_wp2_with fail
        go_ret
        exact ⟨rfl, G.out.bw.trans (hb9.mono G.out.bw.size)⟩
    · have d0 : ¬ (j : Int) < (n : Int) := by omega
      go_wp2_with fail
      refine (runs3 _).mono ?_
      rintro e w9 ⟨rfl, hb9⟩
      go_wp2_with fail
      go_ret
      exact ⟨rfl, G.out.bw.trans (hb9.mono G.out.bw.size)⟩
end Go.Proofs.Ytdbnhpghemlkbaa
