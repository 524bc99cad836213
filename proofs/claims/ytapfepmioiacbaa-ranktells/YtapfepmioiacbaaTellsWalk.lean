/-
  RankTells, walked.
-/
import Derived.Test.YtapfepmioiacbaaSome
import Derived.Test.YtapfepmioiacbaaSrd
import Derived.Test.YtapfepmioiacbaaRefCmp
import Derived.Test.YtapfepmioiacbaaSetI
import Derived.Test.YtapfepmioiacbaaRuns
import Derived.Test.YtapfepmioiacbaaInv
namespace Go.Proofs.Ytapfepmioiacbaa
open Go.RowKit Go.PlainAid
set_option linter.unusedSimpArgs false

section
variable {ls : List (List Sg)} {ps : List Nat}
theorem Places.lt (h : Places ls ps) {i : Nat} (hi : i < ls.length) : ps.getD i 0 < ls.length := by
  have hl := h.len
  have hm : ps.getD i 0 ∈ ps := by simp [List.getD, show i < ps.length by omega]
  have := h.1.mem_iff.1 hm
  simpa using this
theorem Places.nodup (h : Places ls ps) : ps.Nodup := h.1.nodup_iff.2 List.nodup_range
theorem Places.fresh (h : Places ls ps) {i : Nat} (hi : i < ls.length) : ¬ ps.getD i 0 ∈ ps.take i := by
  have hl := h.len
  intro hm
  rw [List.mem_take_iff_getElem] at hm
  obtain ⟨j, hj, e⟩ := hm
  have h2 := (List.pairwise_iff_getElem.1 h.nodup) j i (by omega) (by omega) (by omega)
  apply h2
  rw [e]
  simp [List.getD, show i < ps.length by omega]
theorem Places.next (h : Places ls ps) {i : Nat} (hi : i + 1 < ls.length) : cW ls (ps.getD i 0) (ps.getD (i + 1) 0) < 0 := by
  have hl := h.len
  have := (List.pairwise_iff_getElem.1 h.2) i (i + 1) (by omega) (by omega) (by omega)
  simpa [List.getD, show i < ps.length by omega, show i + 1 < ps.length by omega] using this
theorem mem_next {k : Nat} {N : List Nat} (h : ∀ x, x ∈ N ↔ x ∈ ps.take k) (hk : k < ps.length) : ∀ x, x ∈ (ps.getD k 0 :: N) ↔ x ∈ ps.take (k + 1) := by
  intro x
  have e : ps.take (k + 1) = ps.take k ++ [ps.getD k 0] := by
    rw [List.take_add_one]
    simp [List.getD, hk]
  rw [e, List.mem_cons, h x, List.mem_append, List.mem_singleton]
  exact Or.comm
theorem cW_cases (i k : Nat) (h : cW ls i k < 0) : cP (ls.getD i default) (ls.getD k default) < 0 ∨ (cP (ls.getD i default) (ls.getD k default) = 0 ∧ i < k) := by
  unfold cW at h
  have := cI_cases (i : Int) (k : Int)
  split at h <;> omega
end

theorem SetI.drN {b n : Nat} {N : List Nat} {w w' : World} (h : SetI b n N w) (hw : ∃ q, w' = w.drewN q) : SetI b n N w' := by
  obtain ⟨q, rfl⟩ := hw
  exact h
theorem Ni.at {w : World} {v : Value} {ps : List Nat} (h : Ni w v ps) : ∃ A cap, v = .slice A ps.length cap ∧ ∀ i, i < ps.length → ∃ b o, A = some ⟨b, o, none⟩ ∧ w.cell? ⟨b, o + i, none⟩ = some (.int .i64 (ps.getD i 0 : Nat)) := by
  obtain ⟨A, cap, h1, _, _, h4⟩ := h
  exact ⟨A, cap, h1, h4⟩

set_option maxHeartbeats 6400000 in
set_option maxRecDepth 100000 in
theorem tells_any (A : Option Addr) (n c : Nat) (v2 : Value) (raw : List (List Sg)) (w : World) (hk : Ks w A n) (hr : Gss w v2 raw) (hrl : raw.length ≤ 9223372036854775807) (hrs : ∀ l ∈ raw, l.length ≤ 9223372036854775807) :
    Calls Try.prog 4 #[.slice A n c, v2] w fun e w' => e = .returned (.bool true) ∧ Below w.heap.size w w' := by
  have X1 := Lib.hid (some10 A n c v2 raw w hk hr hrl hrs)
  obtain ⟨A2, n2, c2, rfl⟩ := hr.shape
  clear hk hr hrs hrl
  go_enter Try.func4, Try.ntmps4
  go_wp2_with fail
  refine X1.out.mono ?_
  rintro e w1 ⟨u, ls, rfl, hown, hsix, hlen⟩
  have hl11 : ls.length ≤ 11 := by omega
  have B1 := Lib.hid hown.below
  have G1 := Lib.hid hown.gss
  have F1 := Lib.hid hsix.few
  obtain ⟨A1, c1, hv1⟩ := box_len hown.gss
  subst hv1
  clear hown hsix X1 hlen
  go_wp2_with fail
  refine (sorted11 _ ls w1 G1.out (by omega) F1.out).mono ?_
  rintro e w2 ⟨u2, ps, rfl, hni, hpl, hb2⟩
  have HB2 := Lib.hid (B1.out.trans (hb2.mono B1.out.size))
  have G2 := Lib.hid (G1.out.call hb2)
  have N2 := Lib.hid hni
  have P2 := Lib.hid hpl
  have hpl2 := hpl.len
  obtain ⟨A3, c3, hv3, _⟩ := hni.at
  subst hv3
  rw [hpl2] at N2 ⊢
  have PL := Lib.hid hpl2
  clear hni hpl hb2 hpl2 G1 B1
  have hmm := @run_makeMap Try.prog
  go_wp2_with fail
  have S0 := Lib.hid (setI_new w2)
  have BM := Lib.hid ((Below.refl w2.heap.size w2).alloc (Nat.le_refl _) (.map #[] 0))
  clear hmm
  go_loopw [8, 25] (fun f i wr => ∃ (k : Nat) (N : List Nat), k ≤ ls.length ∧ i = .int .i64 k ∧ f = .int .i64 (fi ls k) ∧ Hid (∀ x, x ∈ N ↔ x ∈ ps.take k) ∧ Hid (SetI w2.heap.size k N wr) ∧ Hid (Below w2.heap.size w2 wr)) (fun _ i _ => ls.length - (intOf i).toNat)
  case atStart => exact ⟨0, [], Nat.zero_le _, rfl, rfl, (fun x => by simp), S0.out, BM.out⟩
  case round =>
    obtain ⟨k, N, hk, rfl, rfl, HMem, HS, HW⟩ := hrel
    by_cases hlt : k < ls.length
    · have d0 : (k : Int) < (ls.length : Int) := by omega
      have GK := Lib.hid (G2.out.call HW.out)
      obtain ⟨A1', cap1', e1, _, _, hcx⟩ := GK.out
      simp only [Value.slice.injEq] at e1
      obtain ⟨rfl, -, rfl⟩ := e1
      obtain ⟨b, o, u, rfl, g1, hu⟩ := hcx k hlt
      have HCX : Hid (∀ i, i < ls.length → ∃ u, wr.cell? ⟨b, o + i, none⟩ = some u ∧ Gs wr u (ls.getD i default)) := by
        intro i hi
        obtain ⟨b', o', u', e', h1, h2⟩ := hcx i hi
        cases e'
        exact ⟨u', h1, h2⟩
      have HU := Lib.hid hu
      obtain ⟨Ak, nk, ck, rfl⟩ := hu.shape
      clear hcx hu
      have G1k := Lib.hid g1
      generalize wr = w3 at *
      clear g1
      go_wp2_with fail
      go_loopw [30] (fun i wz => ∃ (j : Nat), j ≤ ls.length ∧ i = .int .i64 j ∧ Hid (∃ q, wz = w3.drewN q)) (fun i _ => ls.length - (intOf i).toNat)
      case atStart => exact ⟨0, Nat.zero_le _, rfl, 0, rfl⟩
      case round =>
        obtain ⟨j, hj, rfl, hw⟩ := hrel
        by_cases hltj : j < ls.length
        · have d1 : (j : Int) < (ls.length : Int) := by omega
          obtain ⟨uj, g2, huj⟩ := HCX.out j hltj
          have XC := Lib.hid (fun W hW => compare8 _ _ _ _ W (HU.out.drN hW) (huj.drN hW) (F1.out.at k) (F1.out.at j))
          have XR := Lib.hid (fun W hW => refCompare12 _ _ _ _ W (HU.out.drN hW) (huj.drN hW) (F1.out.at k) (F1.out.at j))
          obtain ⟨Aj, nj, cj, rfl⟩ := huj.shape
          have g1 : wr.cell? ⟨b, o + k, none⟩ = some (.slice Ak nk ck) := by rw [drC hw.out]; exact G1k.out
          have g3 : wr.cell? ⟨b, o + j, none⟩ = some (.slice Aj nj cj) := by rw [drC hw.out]; exact g2
          clear g2 huj
          generalize cP (ls.getD k default) (ls.getD j default) = r at *
          go_wp2_with fail
          go_quiet (first | (go_at_call 8; exact Calls.quiet_of (XC.out _ (drN hw.out _))) | (go_at_call 12; exact Calls.quiet_of (XR.out _ (drN hw.out _))))
          go_wp2_with fail
          go_roundw
          case rel => exact ⟨j + 1, by omega, by go_num, drN hw.out _⟩
          case measure => simp [intOf]; omega
        · obtain rfl : j = ls.length := by omega
          have HS4 := Lib.hid (HS.out.drN hw.out)
          have HW4 := Lib.hid (HW.out.trans (drB hw.out _))
          have GC : Hid (∀ i, i < ls.length → ∃ Ai ni ci, wr.cell? ⟨b, o + i, none⟩ = some (.slice Ai ni ci) ∧ Gs wr (.slice Ai ni ci) (ls.getD i default)) := by
            intro i hi
            obtain ⟨u, h1, h2⟩ := HCX.out i hi
            obtain ⟨Ai, ni, ci, rfl⟩ := h2.shape
            exact ⟨Ai, ni, ci, by rw [drC hw.out]; exact h1, h2.drN hw.out⟩
          obtain ⟨A3', c3', e3, hps⟩ := (N2.out.call HW4.out).at
          simp only [Value.slice.injEq] at e3
          obtain ⟨rfl, -, rfl⟩ := e3
          obtain ⟨b3, o3, rfl, y1⟩ := hps k (by rw [PL.out]; exact hlt)
          have PC : Hid (∀ i, i < ls.length → wr.cell? ⟨b3, o3 + i, none⟩ = some (.int .i64 (ps.getD i 0 : Nat))) := by
            intro i hi
            obtain ⟨b', o', e', h1⟩ := hps i (by rw [PL.out]; exact hi)
            cases e'
            exact h1
          have hpk := P2.out.lt hlt
          have HFr := Lib.hid (P2.out.fresh hlt)
          have HNx : Hid (∀ x, x ∈ (ps.getD k 0 :: N) ↔ x ∈ ps.take (k + 1)) := mem_next HMem.out (by rw [PL.out]; exact hlt)
          have HIn : Hid (decide (ps.getD k 0 ∈ N) = false) := decide_eq_false (fun h => HFr.out ((HMem.out _).1 h))
          have HFI : Hid (fi ls (k + 1) = if fi ls k < 0 ∨ cP (ls.getD k default) (ls.getD (fi ls k).toNat default) < 0 then (k : Int) else fi ls k) := by show _ = _; rw [fi]
          have GC2 : Hid (∀ i, i < ls.length → ∃ Ai ni ci, w2.cell? ⟨b, o + i, none⟩ = some (.slice Ai ni ci) ∧ Gs w2 (.slice Ai ni ci) (ls.getD i default)) := by
            intro i hi
            obtain ⟨A', cap', e', _, _, hx⟩ := G2.out
            simp only [Value.slice.injEq] at e'
            obtain ⟨e1, -, -⟩ := e'
            obtain ⟨b', o', u, e2, h1, h2⟩ := hx i hi
            rw [← e1] at e2
            cases e2
            obtain ⟨Ai, ni, ci, rfl⟩ := h2.shape
            exact ⟨Ai, ni, ci, h1, h2⟩
          have PC2 : Hid (∀ i, i < ls.length → w2.cell? ⟨b3, o3 + i, none⟩ = some (.int .i64 (ps.getD i 0 : Nat))) := by
            intro i hi
            obtain ⟨A', cap', e', hx⟩ := N2.out.at
            simp only [Value.slice.injEq] at e'
            obtain ⟨e1, -, -⟩ := e'
            obtain ⟨b', o', e2, h1⟩ := hx i (by rw [PL.out]; exact hi)
            rw [← e1] at e2
            cases e2
            exact h1
          clear hps HU G1k HCX HS HFr HMem GK
          obtain ⟨Ai, ni, ci, g1, hgi⟩ := GC.out k hlt
          have HGI := Lib.hid hgi
          clear hgi hj
          by_cases hk0 : k = 0
          · subst hk0
            have HN : Hid (fi ls (0 + 1) = 0) := by
              have := HFI.out
              rw [if_pos (Or.inl (by show (-1 : Int) < 0; decide))] at this
              exact this
            have hneg : fi ls 0 = -1 := rfl
            rw [hneg] at *
            clear hneg HFI
            generalize ps.getD 0 0 = p at *
            have c1 : ¬ (p : Int) < 0 := by omega
            have c2 : ¬ (ls.length : Int) ≤ (p : Int) := by omega
            have c3 : decide (ls.length ≤ p) = false := by simp; omega
            have c4 : decide ((p : Int) < 0) = false := by simp
            rw [Nat.add_zero] at y1 g1
            rw [show ((0 : Nat) : Int) = 0 from rfl] at *
            go_wp2_with fail
            go_quiet (fail)
            go_wp2_with (first
              | (at_lookup; refine wpList_setLook _ (by kernel_rfl) (.tmp 83) (.tmp 87) rfl w2.heap.size 0 N rfl (HS4.out.drN ⟨_, rfl⟩) p rfl (by omega) ?_; rw [HIn.out])
              | (at_mapUpdate; refine wpList_setPut _ rfl (.tmp 90) (.tmp 94) _ rfl w2.heap.size 0 N rfl (HS4.out.drN ⟨_, rfl⟩) p rfl (by omega) rfl (by unfold maxLen; omega) ?_; intro w7 hs7 hg7; have HS7 := Lib.hid hs7; have HB7 := Lib.hid ((HW4.out.trans (drB ⟨_, rfl⟩ _)).grown hg7 (HW4.out.trans (drB ⟨_, rfl⟩ _)).size (fun j hj => by cases hj; exact Nat.le_refl _)); clear hs7 hg7))
            go_roundw
            case rel => exact ⟨1, p :: N, by omega, rfl, by rw [show (1 : Nat) = 0 + 1 from rfl, HN.out], HNx.out, HS7.out, HB7.out⟩
            case measure => simp [intOf]; omega
          · obtain ⟨kp, rfl⟩ : ∃ kp, k = kp + 1 := ⟨k - 1, by omega⟩
            obtain ⟨f, hff⟩ : ∃ f : Nat, fi ls (kp + 1) = (f : Int) := by
              rcases fi_bd ls (kp + 1) with ⟨h, _⟩ | ⟨_, h, _⟩
              · omega
              · exact ⟨(fi ls (kp + 1)).toNat, by omega⟩
            have hfb : f < ls.length := by
              rcases fi_bd ls (kp + 1) with ⟨h, _⟩ | ⟨_, h, _⟩ <;> omega
            rw [hff] at HFI ⊢
            rw [show ((f : Int)).toNat = f from rfl] at HFI
            clear hff
            have hpp := P2.out.lt (show kp < ls.length by omega)
            have HCW := Lib.hid (cW_cases _ _ (P2.out.next hlt))
            have y0 := PC.out kp (by omega)
            have y0' := PC2.out kp (by omega)
            have y1' := PC2.out (kp + 1) hlt
            obtain ⟨Af, nf, cf, gf, hgf⟩ := GC.out f hfb
            obtain ⟨Ap, np, cp, gp, hgp⟩ := GC2.out _ hpk
            obtain ⟨Aq, mq, cq, gq, hgq⟩ := GC2.out _ hpp
            have HGF := Lib.hid hgf
            have HGP := Lib.hid hgp
            have HGQ := Lib.hid hgq
            have Y0 := Lib.hid y0'
            have Y1 := Lib.hid y1'
            have GP := Lib.hid gp
            have GQ := Lib.hid gq
            clear hgf hgp hgq y0' y1' gp gq GC GC2 PC PC2 y0
            generalize ps.getD (kp + 1) 0 = p at *
            generalize ps.getD kp 0 = p0 at *
            have XR := Lib.hid (fun W hW => refCompare12 _ _ _ _ W (HGI.out.drN hW) (HGF.out.drN hW) (F1.out.at (kp + 1)) (F1.out.at f))
            have XQ := Lib.hid (fun W hW => refCompare12 _ _ _ _ W (HGQ.out.call hW) (HGP.out.call hW) (F1.out.at p0) (F1.out.at p))
            generalize cP (ls.getD (kp + 1) default) (ls.getD f default) = r at *
            generalize cP (ls.getD p0 default) (ls.getD p default) = r2 at *
            clear HGI HGF HGP HGQ
            have c1 : ¬ (p : Int) < 0 := by omega
            have c2 : ¬ (ls.length : Int) ≤ (p : Int) := by omega
            have c3 : decide (ls.length ≤ p) = false := by simp; omega
            have c4 : decide ((p : Int) < 0) = false := by simp
            have f1 : ¬ (f : Int) < 0 := by omega
            have f2 : (f : Int) < (ls.length : Int) := by omega
            have f3 : decide ((f : Int) < 0) = false := by simp
            have p1 : (p : Int) < (ls.length : Int) := by omega
            have p2 : (p0 : Int) < (ls.length : Int) := by omega
            rcases Int.lt_or_le r 0 with hr | hr
            · have HN : Hid (fi ls (kp + 1 + 1) = ((kp + 1 : Nat) : Int)) := by
                have := HFI.out
                rw [if_pos (Or.inr hr)] at this
                exact this
              go_wp2_with fail
              go_quiet (first | (go_at_call 12; exact Calls.quiet_of (XR.out _ ⟨_, rfl⟩)))
              go_wp2_with (first
                | (at_lookup; refine wpList_setLook _ (by kernel_rfl) (.tmp 83) (.tmp 87) rfl w2.heap.size (kp + 1) N rfl (HS4.out.drN ⟨_, rfl⟩) p rfl (by omega) ?_; rw [HIn.out])
                | (at_mapUpdate; refine wpList_setPut _ rfl (.tmp 90) (.tmp 94) _ rfl w2.heap.size (kp + 1) N rfl (HS4.out.drN ⟨_, rfl⟩) p rfl (by omega) rfl (by unfold maxLen; omega) ?_; intro w7 hs7 hg7; have HS7 := Lib.hid hs7; have HB7 := Lib.hid ((HW4.out.trans (drB ⟨_, rfl⟩ _)).grown hg7 (HW4.out.trans (drB ⟨_, rfl⟩ _)).size (fun j hj => by cases hj; exact Nat.le_refl _)); clear hs7 hg7))
              have z0 : w7.cell? ⟨b3, o3 + kp, none⟩ = some (.int .i64 (p0 : Nat)) := by rw [HB7.out.cell (World.block_lt_of_cell? _ _ Y0.out)]; exact Y0.out
              have z1 : w7.cell? ⟨b3, o3 + (kp + 1), none⟩ = some (.int .i64 (p : Nat)) := by rw [HB7.out.cell (World.block_lt_of_cell? _ _ Y1.out)]; exact Y1.out
              have zq : w7.cell? ⟨b, o + p0, none⟩ = some (.slice Aq mq cq) := by rw [HB7.out.cell (World.block_lt_of_cell? _ _ GQ.out)]; exact GQ.out
              have zp : w7.cell? ⟨b, o + p, none⟩ = some (.slice Ap np cp) := by rw [HB7.out.cell (World.block_lt_of_cell? _ _ GP.out)]; exact GP.out
              have e3 : (kp : Int) + 1 - 1 = (kp : Int) := by omega
              have e4 : (kp : Int) < (ls.length : Int) := by omega
              clear y1 g1 gf
              go_quiet (first | (go_at_call 12; exact Calls.quiet_of (XQ.out _ (HB7.out.trans (drB ⟨_, rfl⟩ _)))))
              rcases HCW.out with h2 | ⟨rfl, h3⟩
              · have j1 : ¬ 0 < r2 := by omega
                have j2 : (r2 == 0) = false := by simp; omega
                have j3 : decide (0 < r2) = false := by simp; omega
                clear h2
                go_wp2_with fail
                go_quiet (fail)
                go_wp2_with fail
                go_roundw
                case rel => exact ⟨kp + 1 + 1, p :: N, by omega, by go_num, by rw [HN.out]; rfl, HNx.out, HS7.out.drN ⟨_, rfl⟩, HB7.out.trans (drB ⟨_, rfl⟩ _)⟩
                case measure => simp [intOf]; omega
              · have j1 : ¬ (p : Int) < (p0 : Int) := by omega
                have j2 : decide ((p : Int) < (p0 : Int)) = false := by simp; omega
                have j3 : decide (p < p0) = false := by simp; omega
                clear h3
                go_wp2_with fail
                go_quiet (fail)
                go_wp2_with fail
                go_roundw
                case rel => exact ⟨kp + 1 + 1, p :: N, by omega, by go_num, by rw [HN.out]; rfl, HNx.out, HS7.out.drN ⟨_, rfl⟩, HB7.out.trans (drB ⟨_, rfl⟩ _)⟩
                case measure => simp [intOf]; omega
            · have HN : Hid (fi ls (kp + 1 + 1) = (f : Int)) := by
                have := HFI.out
                rw [if_neg (by omega)] at this
                exact this
              have hr2 : ¬ r < 0 := by omega
              go_wp2_with fail
              go_quiet (first | (go_at_call 12; exact Calls.quiet_of (XR.out _ ⟨_, rfl⟩)))
              go_wp2_with (first
                | (at_lookup; refine wpList_setLook _ (by kernel_rfl) (.tmp 83) (.tmp 87) rfl w2.heap.size (kp + 1) N rfl (HS4.out.drN ⟨_, rfl⟩) p rfl (by omega) ?_; rw [HIn.out])
                | (at_mapUpdate; refine wpList_setPut _ rfl (.tmp 90) (.tmp 94) _ rfl w2.heap.size (kp + 1) N rfl (HS4.out.drN ⟨_, rfl⟩) p rfl (by omega) rfl (by unfold maxLen; omega) ?_; intro w7 hs7 hg7; have HS7 := Lib.hid hs7; have HB7 := Lib.hid ((HW4.out.trans (drB ⟨_, rfl⟩ _)).grown hg7 (HW4.out.trans (drB ⟨_, rfl⟩ _)).size (fun j hj => by cases hj; exact Nat.le_refl _)); clear hs7 hg7))
              have z0 : w7.cell? ⟨b3, o3 + kp, none⟩ = some (.int .i64 (p0 : Nat)) := by rw [HB7.out.cell (World.block_lt_of_cell? _ _ Y0.out)]; exact Y0.out
              have z1 : w7.cell? ⟨b3, o3 + (kp + 1), none⟩ = some (.int .i64 (p : Nat)) := by rw [HB7.out.cell (World.block_lt_of_cell? _ _ Y1.out)]; exact Y1.out
              have zq : w7.cell? ⟨b, o + p0, none⟩ = some (.slice Aq mq cq) := by rw [HB7.out.cell (World.block_lt_of_cell? _ _ GQ.out)]; exact GQ.out
              have zp : w7.cell? ⟨b, o + p, none⟩ = some (.slice Ap np cp) := by rw [HB7.out.cell (World.block_lt_of_cell? _ _ GP.out)]; exact GP.out
              have e3 : (kp : Int) + 1 - 1 = (kp : Int) := by omega
              have e4 : (kp : Int) < (ls.length : Int) := by omega
              clear y1 g1 gf
              go_quiet (first | (go_at_call 12; exact Calls.quiet_of (XQ.out _ (HB7.out.trans (drB ⟨_, rfl⟩ _)))))
              rcases HCW.out with h2 | ⟨rfl, h3⟩
              · have j1 : ¬ 0 < r2 := by omega
                have j2 : (r2 == 0) = false := by simp; omega
                have j3 : decide (0 < r2) = false := by simp; omega
                clear h2
                go_wp2_with fail
                go_quiet (fail)
                go_wp2_with fail
                go_roundw
                case rel => exact ⟨kp + 1 + 1, p :: N, by omega, by go_num, by rw [HN.out], HNx.out, HS7.out.drN ⟨_, rfl⟩, HB7.out.trans (drB ⟨_, rfl⟩ _)⟩
                case measure => simp [intOf]; omega
              · have j1 : ¬ (p : Int) < (p0 : Int) := by omega
                have j2 : decide ((p : Int) < (p0 : Int)) = false := by simp; omega
                have j3 : decide (p < p0) = false := by simp; omega
                clear h3
                go_wp2_with fail
                go_quiet (fail)
                go_wp2_with fail
                go_roundw
                case rel => exact ⟨kp + 1 + 1, p :: N, by omega, by go_num, by rw [HN.out], HNx.out, HS7.out.drN ⟨_, rfl⟩, HB7.out.trans (drB ⟨_, rfl⟩ _)⟩
                case measure => simp [intOf]; omega
    · obtain rfl : k = ls.length := by omega
      have X9 := Lib.hid (first9 _ ls wr (G2.out.call HW.out) (by omega) F1.out)
      generalize fi ls ls.length = V at *
      have qv : (V == V) = true := by simp
      go_wp2_with (first
        | (go_at_call 9; refine X9.out.mono ?_; rintro e w8 ⟨rfl, hq8⟩; have T8 := Lib.hid hq8; clear hq8)
        | (go_at_call 3; refine (rankRuns_any _).mono ?_; rintro e w9 ⟨rfl, hq9⟩; have T9 := Lib.hid hq9; clear hq9))
      go_ret
      exact ⟨rfl, HB2.out.trans ((HW.out.trans ((drB T8.out _).trans (T9.out.mono (by have := HW.out.size; have := (drB T8.out wr.heap.size).size; omega)))).mono HB2.out.size)⟩
end Go.Proofs.Ytapfepmioiacbaa
