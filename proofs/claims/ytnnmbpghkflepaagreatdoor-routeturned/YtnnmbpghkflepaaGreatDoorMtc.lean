/-
  pattern.Match.
-/
import Derived.Test.YtnnmbpghkflepaaGreatDoorTake
import Derived.Test.YtnnmbpghkflepaaGreatDoorRight16
namespace Go.Proofs.YtnnmbpghkflepaaGreatDoor
open Go.RowKit Go.PlainAid
set_option maxRecDepth 100000

theorem mt_some {l : List Sg} {path : List ByteArray} (hr : rgB l = true) : mtB l path = (mtR l path).isSome ∧ mtL l path = (mtR l path).getD [] := by
  rw [mtB, mtL, mtO, if_pos hr]
  exact ⟨rfl, rfl⟩
theorem mt_wrong {l : List Sg} {path : List ByteArray} (hr : rgB l = false) : mtB l path = false ∧ mtL l path = [] := by
  rw [mtB, mtL, mtO, if_neg (by rw [hr]; decide)]
  exact ⟨rfl, rfl⟩
theorem tk_le (g : Sg) (left : List ByteArray) : tkI g left ≤ left.length := by
  obtain ⟨g1, g2⟩ := g
  rcases tk_cases g1 g2 left with ⟨_, e, _⟩ | ⟨_, e, _⟩ | ⟨_, _, _, e, _⟩ | ⟨_, _, _, e, _⟩ | ⟨_, hp, _, e, _⟩ | ⟨_, _, _, hp, e, _⟩ <;> omega
theorem tk_some {g : Sg} {left : List ByteArray} (h : tkB g left = true) : tkN g left = some (tkI g left) := by
  unfold tkB at h
  unfold tkI
  obtain ⟨n, hn⟩ := Option.isSome_iff_exists.1 h
  rw [hn]; rfl
theorem tk_none {g : Sg} {left : List ByteArray} (h : tkB g left = false) : tkN g left = none := by
  unfold tkB at h
  simpa using h
theorem tl_some {g : Sg} {t : List ByteArray} (h : tlB g t = true) : tlP g t = [(g.2, tlS g t)] := by
  unfold tlB at h
  obtain ⟨v, hv⟩ := Option.isSome_iff_exists.1 h
  unfold tlP tlS
  rw [hv]; rfl
theorem tl_none {g : Sg} {t : List ByteArray} (h : tlB g t = false) : tlP g t = [] := by
  unfold tlB at h
  have : tlV g t = none := by simpa using h
  unfold tlP
  rw [this]
theorem Ss.take {w : World} {A : Option Addr} {n c : Nat} {l : List ByteArray} (h : Ss w (.slice A n c) l) (k : Nat) (hk : k ≤ l.length) : Ss w (.slice A k c) (l.take k) := by
  obtain ⟨A', cap, e, h1, h2, h3⟩ := h
  simp only [Value.slice.injEq] at e
  obtain ⟨rfl, _, rfl⟩ := e
  have hl : (l.take k).length = k := by simp; omega
  refine ⟨A, c, by rw [hl], by omega, h2, fun i hi => ?_⟩
  obtain ⟨b, o, ha, h4⟩ := h3 i (by omega)
  have e : (l.take k).getD i default = l.getD i default := by
    simp only [List.getD]
    rw [List.getElem?_take_of_lt (by omega)]
  rw [e]
  exact ⟨b, o, ha, h4⟩
theorem Ss.rest {w : World} {A : Option Addr} {n c : Nat} {l : List ByteArray} (h : Ss w (.slice A n c) l) (k : Nat) (hk : k ≤ l.length) : Ss w (.slice (if c = k then A else Option.map (fun x => x.add k) A) (l.length - k) (c - k)) (l.drop k) := by
  obtain ⟨A', cap, e, h1, h2, h3⟩ := h
  simp only [Value.slice.injEq] at e
  obtain ⟨rfl, _, rfl⟩ := e
  have hl : (l.drop k).length = l.length - k := by simp
  refine ⟨_, c - k, by rw [hl], by rw [hl]; omega, ?_, fun i hi => ?_⟩
  · intro hA
    split at hA
    · rename_i e; omega
    · rw [Option.map_eq_none_iff] at hA
      have := h2 hA
      omega
  · rw [hl] at hi
    obtain ⟨b, o, ha, h4⟩ := h3 (k + i) (by omega)
    subst ha
    refine ⟨b, o + k, ?_, ?_⟩
    · rw [if_neg (by omega), Option.map_some, Addr.add_lit]
    · have e : (l.drop k).getD i default = l.getD (k + i) default := by simp [List.getD]
      rw [e, Nat.add_assoc]
      exact h4
/-- what Match has come to -/
def MtMid (l : List Sg) (path : List ByteArray) (k : Nat) (lf : List ByteArray) (ps : List Pr) : Prop :=
  mtR l path = (mtR (l.drop k) lf).map (ps ++ ·) ∧ (∀ s ∈ lf, s.size ≤ 100000000) ∧ lf.length ≤ 1000 ∧ ps.length ≤ k
theorem mid_next {l : List Sg} {path : List ByteArray} {k n : Nat} {lf : List ByteArray} {ps : List Pr} {g : Sg} {q : List Pr} (h : MtMid l path k lf ps)
    (ht : mtR (l.drop k) lf = (mtR (l.drop (k + 1)) (lf.drop n)).map (fun q => tlP g (lf.take n) ++ q)) (hq : tlP g (lf.take n) = q) (hq1 : q.length ≤ 1) : MtMid l path (k + 1) (lf.drop n) (ps ++ q) := by
  obtain ⟨h1, h2, h3, h4⟩ := h
  refine ⟨?_, fun s hs => h2 s (List.mem_of_mem_drop hs), by rw [List.length_drop]; omega, by rw [List.length_append]; omega⟩
  rw [h1, ht, Option.map_map, hq]
  congr 1
  funext z
  simp

set_option maxHeartbeats 3200000 in
set_option maxRecDepth 100000 in
theorem match8 (v1 v2 : Value) (l : List Sg) (path : List ByteArray) (w : World) (h1 : Gs w v1 l) (h2 : Ss w v2 path) (hs : ∀ s ∈ path, s.size ≤ 100000000) (hl : path.length ≤ 1000) :
    Calls Tryz.prog 47 #[v1, v2] w fun e w' => ∃ v, e = .returned (.tuple #[v, .bool (mtB l path)]) ∧ Ps w' v (mtL l path) ∧ Below w.heap.size w w' := by
  by_cases hr : rgB l = true
  · have HG := Lib.hid h1
    have HS := Lib.hid h2
    have hl8 := rg_len hr
    have HE := Lib.hid (mt_some (path := path) hr)
    have HZ := Lib.hid hs
    obtain ⟨A, cap, rfl, hcap, _, hc⟩ := h1
    have HC := Lib.hid hc
    obtain ⟨A2, n2, c2, rfl⟩ := h2.shape
    clear hc h2 hs
    go_enter Tryz.func47, Tryz.ntmps47
    go_wp2_with (first | (go_at_call 34; refine (right16 _ _ _ HG.out).mono ?_; rintro e w6 ⟨rfl, h6⟩; rw [hr]; have H6 := Lib.hid h6; clear h6))
    go_loopw [6, 7, 20] (fun p f i wr => ∃ (k : Nat) (lf : List ByteArray) (ps : List Pr), k ≤ l.length ∧ i = .int .i64 k ∧ Ss w6 f lf ∧ OwnP w6.heap.size w6 p ps wr ∧ MtMid l path k lf ps) (fun _ _ i _ => l.length - (intOf i).toNat)
    case atStart => exact ⟨0, path, [], Nat.zero_le _, rfl, HS.out.call H6.out, nilP _ _ _ (Below.refl _ _) (Nat.le_refl _), by simp, HZ.out, hl, by simp⟩
    case round =>
      obtain ⟨k, lf, ps, hk, rfl, hss, hown, hmid⟩ := hrel
      have HSS := Lib.hid hss
      have HO := Lib.hid hown
      have HM := Lib.hid hmid
      obtain ⟨A7, c7, rfl, hcp7, hn7, _⟩ := hss
      clear hown hmid
      by_cases hlt : k < l.length
      · have d0 : (k : Int) < (l.length : Int) := by omega
        obtain ⟨x, o, rfl, hcell, hcelb⟩ := HC.out k hlt
        have hbz := HO.out.2.1
        have hlx := World.block_lt_of_cell? _ _ hcell
        have g1 : wr.cell? ⟨x, o + k * 2, none⟩ = some (.int .i64 (l.getD k default).1) := by rw [hbz.cell (by have := H6.out.size; exact Nat.lt_of_lt_of_le hlx this), H6.out.cell hlx]; exact hcell
        have g3 : wr.cell? ⟨x, o + k * 2 + 1, none⟩ = some (.string (l.getD k default).2) := by rw [hbz.cell (by have := H6.out.size; exact Nat.lt_of_lt_of_le (World.block_lt_of_cell? _ _ hcelb) this), H6.out.cell (World.block_lt_of_cell? _ _ hcelb)]; exact hcelb
        have HN := Lib.hid (@mt_none l k lf hlt)
        have HT := Lib.hid (fun n => @mt_step l k lf hlt n)
        clear hcell hcelb hbz hlx
        generalize l.getD k default = s at *
        obtain ⟨s1, s2⟩ := s
        simp only at g1 g3
        have HX := Lib.hid (blk_new wr (.cells #[.int .i64 s1, .string s2] 49 (0, 0)))
        have HY := Lib.hid ((Below.refl wr.heap.size wr).alloc (Nat.le_refl _) (.cells #[.int .i64 s1, .string s2] 49 (0, 0)))
        have HO9 := Lib.hid (HO.out.alloc (.cells #[.int .i64 s1, .string s2] 49 (0, 0)))
        have HS9 := Lib.hid ((HSS.out.call HO.out.2.1).call HY.out)
        go_wp2_with fail
        generalize wr.alloc (.cells #[.int .i64 s1, .string s2] 49) = w9 at *
        by_cases ht : tkB (s1, s2) lf = true
        · have hle := tk_le (s1, s2) lf
          have HT1 := Lib.hid (HT.out _ (tk_some ht))
          obtain ⟨n, hn⟩ : ∃ n, tkI (s1, s2) lf = n := ⟨_, rfl⟩
          rw [hn] at hle HT1
          refine (take25 _ _ _ _ _ HS9.out).mono ?_
          rintro e w1 ⟨rfl, h1⟩
          rw [ht, hn]
          have HX1 := Lib.hid (blk_call HX.out h1)
          have HO1 := Lib.hid (HO9.out.call h1)
          have HS1 := Lib.hid (HS9.out.call h1)
          obtain ⟨k0, k1, _, _⟩ := blk2 HX1.out
          clear h1 HX HO9 HS9 HS HO
          have n1 : (n : Int) ≤ (lf.length : Int) := by omega
          have n2 : (n : Int) ≤ (c7 : Int) := by omega
          have HTK := Lib.hid (HS1.out.take n hle)
          have HZT : Hid (∀ s ∈ lf.take n, s.size ≤ 100000000) := fun s hs => HM.out.2.1 s (List.mem_of_mem_take hs)
          have hlt2 : (lf.take n).length ≤ 1000 := by have := HM.out.2.2.1; rw [List.length_take]; omega
          have KS : Hid (∀ w' : World, Below w1.heap.size w1 w' → w'.cell? ⟨wr.heap.size, 0, none⟩ = some (.int .i64 s1) ∧ w'.cell? ⟨wr.heap.size, 1, none⟩ = some (.string s2) ∧ Below w1.heap.size w1 w') := by
            intro w' hk
            obtain ⟨a, b, _, _⟩ := blk2 (blk_call HX1.out hk)
            exact ⟨a, b, hk⟩
          go_wp2_with fail
          by_cases hq : tlB (s1, s2) (lf.take n) = true
          · obtain ⟨T, hT⟩ : ∃ T, tlS (s1, s2) (lf.take n) = T := ⟨_, rfl⟩
            have HP := Lib.hid (tl_some hq)
            rw [hT] at HP
            go_region_held3 (fun w' => w'.cell? ⟨wr.heap.size, 0, none⟩ = some (.int .i64 s1) ∧ w'.cell? ⟨wr.heap.size, 1, none⟩ = some (.string s2) ∧ Below w1.heap.size w1 w')
              (first | exact KS.out _ ((Below.refl _ _).drew) | exact KS.out _ M3.out)
              (first
                | (go_at_call 68; refine (tell26 _ _ _ (lf.take n) _ (HTK.out.call ((Below.refl _ _).drew)) HZT.out hlt2).mono ?_; rintro e w3 ⟨rfl, h⟩; rw [hq, hT]; have M3 := Lib.hid (((Below.refl w1.heap.size w1).drew).trans h); clear h))
            have HO3 := Lib.hid (HO1.out.call M3.out)
            have HS3 := Lib.hid (HS1.out.call M3.out)
            obtain ⟨k2, k3, _, _⟩ := blk2 (blk_call HX1.out M3.out)
            clear k0 k1
            have eb : Hid (ps.length ≤ 1000000000) := by have := HM.out.2.2.2; show _ ≤ _; omega
            go_wp2_with (first | (at_builtin; refine wpList_appP _ rfl (.tmp 41) (.tmp 46) rfl w6.heap.size w6 _ _ rfl (HO3.out.alloc _) ?b1 w3.heap.size 1 1 [(s2, T)] rfl rfl (by omega) (heap_alloc_new _ _) ?_))
            case b1 => exact eb.out
            intro v4 w4 h4 hg4 _
            have H4 := Lib.hid h4
            have HG4 := Lib.hid hg4
            clear h4 hg4
            go_wp2_with fail
            go_roundw
            case rel => exact ⟨k + 1, lf.drop n, ps ++ [(s2, T)], by omega, by go_num, HSS.out.rest n hle, H4.out, mid_next HM.out HT1.out HP.out (by simp)⟩
            case measure => simp [intOf]; omega
          · have hq : tlB (s1, s2) (lf.take n) = false := by simpa using hq
            obtain ⟨T, hT⟩ : ∃ T, tlS (s1, s2) (lf.take n) = T := ⟨_, rfl⟩
            have HP := Lib.hid (tl_none hq)
            go_region_held3 (fun w' => w'.cell? ⟨wr.heap.size, 0, none⟩ = some (.int .i64 s1) ∧ w'.cell? ⟨wr.heap.size, 1, none⟩ = some (.string s2) ∧ Below w1.heap.size w1 w')
              (first | exact KS.out _ ((Below.refl _ _).drew) | exact KS.out _ M3.out)
              (first
                | (go_at_call 68; refine (tell26 _ _ _ (lf.take n) _ (HTK.out.call ((Below.refl _ _).drew)) HZT.out hlt2).mono ?_; rintro e w3 ⟨rfl, h⟩; rw [hq, hT]; have M3 := Lib.hid (((Below.refl w1.heap.size w1).drew).trans h); clear h))
            have HO3 := Lib.hid (HO1.out.call M3.out)
            clear k0 k1
            go_wp2_with fail
            go_roundw
            case rel => exact ⟨k + 1, lf.drop n, ps ++ [], by omega, by go_num, HSS.out.rest n hle, by rw [List.append_nil]; exact HO3.out, mid_next HM.out HT1.out HP.out (by simp)⟩
            case measure => simp [intOf]; omega
        · have ht : tkB (s1, s2) lf = false := by simpa using ht
          have hR : mtR l path = none := by rw [HM.out.1, HN.out (tk_none ht)]; rfl
          have HE2 : Hid (mtB l path = false ∧ mtL l path = []) := ⟨by rw [HE.out.1, hR]; rfl, by rw [HE.out.2, hR]; rfl⟩
          have HB9 := Lib.hid (H6.out.trans (HO9.out.2.1.mono H6.out.size))
          have hsz9 := HO9.out.2.2
          clear hR
          refine (take25 _ _ _ _ _ HS9.out).mono ?_
          rintro e w1 ⟨rfl, h1⟩
          rw [ht]
          have HB1 := Lib.hid (HB9.out.trans (h1.mono HB9.out.size))
          clear h1
          go_wp2
          rw [HE2.out.1, HE2.out.2]
          go_ret2
          exact ⟨_, rfl, ps_nil _, HB1.out⟩
      · obtain rfl : k = l.length := by omega
        have hR : mtR l path = if lf = [] then some ps else none := by
          rw [HM.out.1, List.drop_length, mtR]
          split <;> simp
        have HBr := Lib.hid (H6.out.trans (HO.out.2.1.mono H6.out.size))
        obtain ⟨A8, n8, c8, hv8⟩ := HO.out.ps.shape
        subst hv8
        by_cases h0 : lf = []
        · subst h0
          rw [if_pos rfl] at hR
          have HE2 : Hid (mtB l path = true ∧ mtL l path = ps) := ⟨by rw [HE.out.1, hR]; rfl, by rw [HE.out.2, hR]; rfl⟩
          clear hR
          go_wp2
          rw [HE2.out.1, HE2.out.2]
          go_ret2
          exact ⟨_, rfl, HO.out.ps, HBr.out⟩
        · rw [if_neg h0] at hR
          have hp := List.length_pos_iff.2 h0
          have c0 : (0 : Int) < (lf.length : Int) := by omega
          have HE2 : Hid (mtB l path = false ∧ mtL l path = []) := ⟨by rw [HE.out.1, hR]; rfl, by rw [HE.out.2, hR]; rfl⟩
          clear hR h0
          go_wp2
          rw [HE2.out.1, HE2.out.2]
          go_ret2
          exact ⟨_, rfl, ps_nil _, HBr.out⟩
  · have hr : rgB l = false := by simpa using hr
    have HG := Lib.hid h1
    have HE := Lib.hid (mt_wrong (path := path) hr)
    obtain ⟨A, n, c, rfl⟩ := h1.shape
    obtain ⟨A2, n2, c2, rfl⟩ := h2.shape
    clear h1 h2
    go_enter Tryz.func47, Tryz.ntmps47
    go_wp2_with (first | (go_at_call 34; refine (right16 _ _ _ HG.out).mono ?_; rintro e w6 ⟨rfl, h6⟩; rw [hr]; have H6 := Lib.hid h6; clear h6))
    rw [HE.out.1, HE.out.2]
    go_ret2
    exact ⟨_, rfl, ps_nil _, H6.out⟩
end Go.Proofs.YtnnmbpghkflepaaGreatDoor
