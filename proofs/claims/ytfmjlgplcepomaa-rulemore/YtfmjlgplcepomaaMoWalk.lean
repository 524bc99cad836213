/-
  RuleMore, walked.
-/
import Derived.Test.YtfmjlgplcepomaaFlWalk
namespace Go.Proofs.Ytfmjlgplcepomaa
open Go.RowKit Go.PlainAid
set_option maxRecDepth 100000

/-- one flag more -/
theorem stB_more {L : List Bool} {k : Nat} {i : Int} (h : stB L.length (fun j => L.getD j false) i = true) : stB L.length (fun j => (L.set k true).getD j false) i = true := by
  by_cases h0 : 0 ≤ i
  · obtain ⟨j, rfl⟩ : ∃ j : Nat, i = (j : Int) := ⟨i.toNat, by omega⟩
    by_cases h1 : j < L.length
    · rw [stB_nat h1] at h ⊢
      by_cases e : k = j
      · subst e
        simp [List.getD, h1]
      · simpa [List.getD, e] using h
    · rw [stB_big (by omega)] at h
      cases h
  · rw [stB_neg h0] at h
    cases h
theorem say_more {k : Int} {s s' : Bool} (h : s = true → s' = true) (h0 : sayI k s = 0) : sayI k s' = 0 := by
  cases s
  · rcases kinds k with rfl | rfl | rfl | rfl | rfl | ⟨k0, k1, k2, k3, k4⟩
    · rfl
    · cases h0
    · cases h0
    · cases h0
    · cases h0
    · simp [sayI, k0, k2, k3, k4] at h0
  · rw [h rfl]
    exact h0
/-- what passes passes with more -/
theorem AllP.more {n : Nat} {sy sy' : Nat → Int} {tx tx' : Nat → ByteArray} {a b : Int} {x y : ByteArray} {p q : Int} (h : AllP n sy tx a x p) (k : AllP n sy' tx' b y q) (hm : ∀ i, sy i = 0 → sy' i = 0) : (a = 0 → b = 0) ∧ (0 ≤ q → 0 ≤ p ∧ p ≤ q) := by
  rcases h with ⟨rfl, rfl, rfl, h⟩ | ⟨i, hi, rfl, rfl, rfl, h1, h2⟩
  · rcases k with ⟨rfl, rfl, rfl, k⟩ | ⟨j, hj, rfl, rfl, rfl, k1, k2⟩
    · exact ⟨fun _ => rfl, fun h => by omega⟩
    · exact absurd (hm j (h j hj)) k1
  · refine ⟨fun h => absurd h h1, fun hq => ?_⟩
    rcases k with ⟨rfl, rfl, rfl, k⟩ | ⟨j, hj, rfl, rfl, rfl, k1, k2⟩
    · omega
    · refine ⟨by omega, ?_⟩
      by_cases e : j < i
      · exact absurd (hm j (h2 j e)) k1
      · omega
/-- in two parts -/
theorem AllP.parts {n k : Nat} {sy : Nat → Int} {tx : Nat → ByteArray} {a c d : Int} {x y z : ByteArray} {p r s : Int} (hk : k ≤ n) (h : AllP n sy tx a x p) (h1 : AllP k sy tx c y r) (h2 : AllP (n - k) (fun i => sy (k + i)) (fun i => tx (k + i)) d z s) :
    (c ≠ 0 → a = c ∧ x = y ∧ p = r) ∧ (c = 0 → 0 ≤ s → a = d ∧ x = z ∧ p = s + (k : Int)) ∧ (c = 0 → ¬ 0 ≤ s → a = d ∧ x = z ∧ p = s) := by
  rcases h1 with ⟨rfl, rfl, rfl, h1⟩ | ⟨i, hi, rfl, rfl, rfl, h3, h4⟩
  · refine ⟨fun h => absurd rfl h, fun _ hs => ?_, fun _ hs => ?_⟩
    · rcases h2 with ⟨rfl, rfl, rfl, h2⟩ | ⟨j, hj, rfl, rfl, rfl, h5, h6⟩
      · omega
      · have := h.uniq (Or.inr ⟨k + j, by omega, rfl, rfl, rfl, h5, fun i hi => ?_⟩)
        · obtain ⟨e1, e2, e3⟩ := this
          exact ⟨e1, e2, by omega⟩
        · by_cases e : i < k
          · exact h1 i e
          · have : sy (k + (i - k)) = 0 := h6 (i - k) (by omega)
            have e2 : k + (i - k) = i := by omega
            rw [e2] at this
            exact this
    · rcases h2 with ⟨rfl, rfl, rfl, h2⟩ | ⟨j, hj, rfl, rfl, rfl, h5, h6⟩
      · refine h.uniq (Or.inl ⟨rfl, rfl, rfl, fun i hi => ?_⟩)
        by_cases e : i < k
        · exact h1 i e
        · have : sy (k + (i - k)) = 0 := h2 (i - k) (by omega)
          have e2 : k + (i - k) = i := by omega
          rw [e2] at this
          exact this
      · omega
  · refine ⟨fun _ => h.uniq (Or.inr ⟨i, by omega, rfl, rfl, rfl, h3, h4⟩), fun h => absurd h h3, fun h => absurd h h3⟩
theorem AllP.none {sy : Nat → Int} {tx : Nat → ByteArray} {a : Int} {x : ByteArray} {p : Int} (h : AllP 0 sy tx a x p) : a = 0 ∧ p = -1 := by
  rcases h with ⟨rfl, rfl, rfl, h⟩ | ⟨i, hi, _⟩
  · exact ⟨rfl, rfl⟩
  · omega

theorem AllP.le {n : Nat} {sy : Nat → Int} {tx : Nat → ByteArray} {a : Int} {x : ByteArray} {p : Int} (h : AllP n sy tx a x p) : p < (n : Int) := by
  rcases h with ⟨rfl, rfl, rfl, h⟩ | ⟨i, hi, rfl, _⟩
  · omega
  · omega

set_option maxHeartbeats 12800000 in
theorem ruleMore5 (v u : Value) (n m : Nat) (gr : Nat → Rl) (g : Nat → Bool) (at' cut : Int) (w : World) (h : Rs w v n gr) (h' : Bs w u m g) :
    Calls Try.prog 5 #[v, u, .int .i64 at', .int .i64 cut] w fun e w' => e = .returned (.bool true) ∧ Below w.heap.size w w' := by
  obtain ⟨A, c, rfl⟩ := h.shape
  obtain ⟨D, d, rfl⟩ := h'.shape
  have hcap := h.cap
  have E1 := Lib.hid (empR w.heap.size w w (Below.refl _ _) (Nat.le_refl _))
  have hm1 : (if (8 : Int) < (n : Int) then 8 else (n : Int)).toNat ≤ n := by split <;> omega
  have hm2 : (if (8 : Int) < (n : Int) then 8 else (n : Int)).toNat ≤ 10 := by split <;> omega
  have hm3 : 0 ≤ (if (8 : Int) < (n : Int) then 8 else (n : Int)) := by split <;> omega
  have hm4 : (if (8 : Int) < (n : Int) then 8 else (n : Int)) ≤ (c : Int) := by split <;> omega
  have HR1 := Lib.hid ((h.call ((Below.refl _ w).alloc (Nat.le_refl _) (.cells #[] 23 (0, 0)))).take _ hm1)
  have HM2 := Lib.hid hm2
  have HF := Lib.hid h'
  clear hm1 hm2 h h'
  go_enter Try.func5, Try.ntmps5
  go_upto_region 2 with (first | (at_builtin; refine wpList_catR (w := w.alloc (.cells #[] 23 (0, 0))) rfl (.tmp 34) (.tmp 39) rfl w.heap.size w _ [] rfl E1.out (by simp) _ _ gr rfl HM2.out HR1.out ?_; intro v1 w1 h1 hg1; rw [List.nil_append] at h1; have O1 := Lib.hid h1; clear hg1))
  have hR10 : ((List.range (if (8 : Int) < (n : Int) then 8 else (n : Int)).toNat).map gr).length ≤ 10 := by simpa using HM2.out
  generalize (List.range (if (8 : Int) < (n : Int) then 8 else (n : Int)).toNat).map gr = R at *
  clear E1 HR1 hm3 hm4 hcap HM2
  generalize (if (8 : Int) < (n : Int) then 8 else (n : Int)) = M at *
  have hcap := HF.out.cap
  obtain ⟨A1, c1, e1⟩ := O1.out.rs.shape
  subst e1
  have HB1 := Lib.hid O1.out.2.1
  have HR1 := Lib.hid O1.out.rs
  have HF1 := Lib.hid (HF.out.call HB1.out)
  clear O1 h1 HF
  have E2 := Lib.hid (empB w1.heap.size w1 w1 (Below.refl _ _) (Nat.le_refl _))
  have hm1 : (if (8 : Int) < (m : Int) then 8 else (m : Int)).toNat ≤ m := by split <;> omega
  have hm2 : (if (8 : Int) < (m : Int) then 8 else (m : Int)).toNat ≤ 10 := by split <;> omega
  have hm3 : 0 ≤ (if (8 : Int) < (m : Int) then 8 else (m : Int)) := by split <;> omega
  have hm4 : (if (8 : Int) < (m : Int) then 8 else (m : Int)) ≤ (d : Int) := by split <;> omega
  have HF2 := Lib.hid ((HF1.out.call ((Below.refl _ w1).alloc (Nat.le_refl _) (.cells #[] 4 (0, 0)))).take _ hm1)
  have HM2 := Lib.hid hm2
  clear hm1 hm2 HF1
  go_upto_region 3 with (first | (at_builtin; refine wpList_catB (w := w1.alloc (.cells #[] 4 (0, 0))) rfl (.tmp 41) (.tmp 46) rfl w1.heap.size w1 _ [] rfl E2.out (by simp) _ _ g rfl HM2.out HF2.out ?_; intro v2 w2 h2 hg2; rw [List.nil_append] at h2; have O2 := Lib.hid h2; clear hg2))
  have hL10 : ((List.range (if (8 : Int) < (m : Int) then 8 else (m : Int)).toNat).map g).length ≤ 10 := by simpa using HM2.out
  generalize (List.range (if (8 : Int) < (m : Int) then 8 else (m : Int)).toNat).map g = L at *
  clear E2 HF2 hm3 hm4 hcap HM2
  generalize (if (8 : Int) < (m : Int) then 8 else (m : Int)) = M2 at *
  obtain ⟨A2, c2, e2⟩ := O2.out.bs.shape
  subst e2
  have HB2 := Lib.hid (HB1.out.trans (O2.out.2.1.mono HB1.out.size))
  have HR2 := Lib.hid (HR1.out.call O2.out.2.1)
  have HF2 := Lib.hid O2.out.bs
  clear O2 h2 HB1 HR1
  go_upto_region 4 with (first | (go_at_call 10; refine (all10 _ _ _ _ _ _ w2 HR2.out (by omega) HF2.out).mono ?_; rintro e w3 ⟨a, x, p, rfl, hp, hb3⟩; have HP := Lib.hid hp; have HB3 := Lib.hid (HB2.out.trans (hb3.mono HB2.out.size)); have HR3 := Lib.hid (HR2.out.call hb3); have HF3 := Lib.hid (HF2.out.call hb3); clear hb3 hp))
  clear HB2 HR2 HF2
  have E3 := Lib.hid (empB w3.heap.size w3 w3 (Below.refl _ _) (Nat.le_refl _))
  have HF3a := Lib.hid (HF3.out.call ((Below.refl _ w3).alloc (Nat.le_refl _) (.cells #[] 4 (0, 0))))
  go_upto_region 5 with (first | (at_builtin; refine wpList_catB (w := w3.alloc (.cells #[] 4 (0, 0))) rfl (.tmp 55) (.tmp 56) rfl w3.heap.size w3 _ [] rfl E3.out (by simp) _ L.length (fun i => L.getD i false) rfl (by omega) HF3a.out ?_; intro v4 w4 h4 hg4; rw [range_self] at h4; have O4 := Lib.hid h4; clear hg4))
  clear E3 HF3a h4
  obtain ⟨A4, c4, e4⟩ := O4.out.bs.shape
  subst e4
  go_upto_if 60 with fail
  go_cut [10, 14] (fun s10 s14 wz => s10 = .slice A2 L.length c2 ∧ s14 = .slice A4 L.length c4 ∧ Hid (∃ lt : List Bool, lt.length = L.length ∧ (∀ i, stB L.length (fun j => L.getD j false) i = true → stB L.length (fun j => lt.getD j false) i = true) ∧ OwnB w3.heap.size w3 (.slice A4 L.length c4) lt wz))
  case first =>
    by_cases hL0 : L.length = 0
    · have d0 : ¬ 0 < L.length := by omega
      go_wp2_with fail
      go_meet
      exact ⟨by rw [hL0], by rw [hL0], L, rfl, fun _ h => h, O4.out⟩
    · obtain ⟨q, hq⟩ : ∃ q, L.length = q + 1 := ⟨L.length - 1, by omega⟩
      have d0 : 0 < L.length := by omega
      have eL : ((L.length : Nat) : Int) - 1 = (q : Int) := by omega
      obtain ⟨g3, cap3, e3, hg3, hcell, hfz⟩ := O4.out.box d0
      cases e3
      have HC := Lib.hid hcell
      have HZ := Lib.hid hfz
      have HM := Lib.hid hq
      clear hcell hfz hq hL0
      obtain ⟨i, hi⟩ : ∃ i : Nat, wi at' (q : Int) = (i : Int) := ⟨(wi at' q).toNat, by have := wi_in at' q (by omega); omega⟩
      have hiq : i ≤ q := by have := wi_in at' q (by omega); omega
      have HI := Lib.hid hi
      have x0 := HC.out i (by have := HM.out; omega)
      have x1 := HZ.out i
      have di : (i : Int) < (L.length : Int) := by have := HM.out; omega
      go_wp2_with (first | (go_at_call 11; refine (within_any _ q _ (by omega) (by have := HM.out; omega)).mono ?_; rintro e w' ⟨rfl, hw⟩; rw [HI.out, ← hw]; clear hw))
      go_meet
      exact ⟨by first | rfl | rw [HM.out], by first | rfl | rw [HM.out], L.set i true, by simp, fun _ h => stB_more h, O4.out.set i _⟩
  case rest =>
    obtain ⟨rfl, rfl, hcut⟩ := hcut
    obtain ⟨lt, hlt, hst, hO⟩ := hcut.out
    have HB4 := Lib.hid (HB3.out.trans (hO.2.1.mono HB3.out.size))
    have HR4 := Lib.hid (HR3.out.call hO.2.1)
    have HF4 := Lib.hid (HF3.out.call hO.2.1)
    have HT4 := Lib.hid hO.bs
    rw [hlt] at HT4
    have HST := Lib.hid hst
    clear hcut hO hlt hst HB3 HR3 HF3 O4
    go_upto_region 8 with (first | (go_at_call 10; refine (all10 _ _ _ _ _ _ wc HR4.out (by omega) HT4.out).mono ?_; rintro e w5 ⟨b, y, q, rfl, hp, hb5⟩; have HQ := Lib.hid hp; have HB5 := Lib.hid (HB4.out.trans (hb5.mono HB4.out.size)); have HR5 := Lib.hid (HR4.out.call hb5); have HF5 := Lib.hid (HF4.out.call hb5); clear hb5 hp))
    have hmo := HP.out.more HQ.out (fun i hi => say_more (fun h => HST.out _ h) hi)
    clear HB4 HR4 HF4 HT4 HST HQ
    go_cut [93] (fun s93 wz => s93 = .bool false ∧ wz = w5)
    case first =>
      obtain ⟨hm1, hm2⟩ := hmo
      by_cases ha : a = 0
      · obtain rfl := hm1 ha
        subst ha
        by_cases hq : 0 ≤ q
        · obtain ⟨hp0, hpq⟩ := hm2 hq
          have d1 : ¬ p < 0 := by omega
          have d2 : ¬ q < p := by omega
          clear hm1 hm2
          go_wp2_with fail
          go_meet
          exact ⟨rfl, rfl⟩
        · clear hm1 hm2
          go_wp2_with fail
          go_meet
          exact ⟨rfl, rfl⟩
      · have d0 : (a == 0) = false := by simpa using ha
        by_cases hq : 0 ≤ q
        · obtain ⟨hp0, hpq⟩ := hm2 hq
          have d1 : ¬ p < 0 := by omega
          have d2 : ¬ q < p := by omega
          clear hm1 hm2 ha
          go_wp2_with fail
          go_meet
          exact ⟨rfl, rfl⟩
        · clear hm1 hm2 ha
          go_wp2_with fail
          go_meet
          exact ⟨rfl, rfl⟩
    case rest =>
      obtain ⟨rfl, rfl⟩ := hcut
      clear hmo
      go_upto_region 11 with (first | (go_at_call 11; refine (within11 _ R.length _ (by omega)).mono ?_; rintro e w' ⟨k, hk, rfl, hw⟩; rw [hw]; clear hw))
      have hcp := HR5.out.cap
      have dk1 : (k : Int) ≤ (c1 : Int) := by omega
      have dk2 : (k : Int) ≤ (R.length : Int) := by omega
      have dk3 : (R.length : Int) ≤ (c1 : Int) := by omega
      have HK := Lib.hid hk
      have HC1 := Lib.hid (HR5.out.take k hk)
      clear hk hcp
      go_upto_region 12 with (first | (go_at_call 10; refine (all10 _ _ _ _ _ _ wc HC1.out (by omega) HF5.out).mono ?_; rintro e w6 ⟨c, y6, r, rfl, hp, hb6⟩; have HP1 := Lib.hid hp; have HB6 := Lib.hid (HB5.out.trans (hb6.mono HB5.out.size)); have HR6 := Lib.hid (HR5.out.call hb6); have HF6 := Lib.hid (HF5.out.call hb6); clear hb6 hp))
      clear HC1 HB5 HR5 HF5
      have HC2 := Lib.hid (HR6.out.rest k HK.out)
      obtain ⟨AX, hAX⟩ : ∃ AX, (if c1 = k then A1 else Option.map (fun x => x.add (k * 3)) A1) = AX := ⟨_, rfl⟩
      rw [hAX] at HC2
      go_upto_region 13 with (first | (go_at_call 10; refine (all10 _ _ _ _ _ _ w6 HC2.out (by omega) HF6.out).mono ?_; rintro e w7 ⟨d, z7, s, rfl, hp, hb7⟩; have HP2 := Lib.hid hp; have HB7 := Lib.hid (HB6.out.trans (hb7.mono HB6.out.size)); have HR7 := Lib.hid (HR6.out.call hb7); have HF7 := Lib.hid (HF6.out.call hb7); clear hb7 hp))
      have HP3 : Hid (AllP (R.length - k) (fun i => syF (fun i => R.getD i default) L.length (fun i => L.getD i false) (k + i)) (fun i => txF (fun i => R.getD i default) L.length (fun i => L.getD i false) (k + i)) d z7 s) := HP2.out
      have HX := Lib.hid (HP.out.parts HK.out HP1.out HP3.out)
      have hs10 : s ≤ 10 := by have := HP3.out.le; omega
      clear HC2 hAX HB6 HR6 HF6 HP1 HP2 HP3
      go_upto_region 14 with (first | (go_at_call 10; refine (all10 _ _ _ _ _ _ w7 HR7.out (by omega) HF7.out).mono ?_; rintro e w8 ⟨a', x', p', rfl, hp, hb8⟩; have HB8 := Lib.hid (HB7.out.trans (hb8.mono HB7.out.size)); have HF8 := Lib.hid (HF7.out.call hb8); obtain ⟨rfl, rfl, -⟩ := hp.uniq HP.out; clear hb8 hp))
      clear HB7 HR7 HF7 HP
      go_upto_if 127 with fail
      go_cut [28, 29, 30] (fun s28 s29 s30 wz => s28 = .int .i64 a' ∧ s29 = .string x' ∧ s30 = .int .i64 p ∧ wz = w8)
      case first =>
        by_cases hc : c = 0
        · have d0 : (c == 0) = true := by simpa using hc
          by_cases hs : 0 ≤ s
          · obtain ⟨y1, y2, y3⟩ := HX.out.2.1 hc (by omega)
            have Y1 := Lib.hid y1
            have Y2 := Lib.hid y2
            have Y3 := Lib.hid y3
            have dk10 : (k : Int) ≤ 10 := by omega
            clear hc y1 y2 y3
            go_wp2_with fail
            go_meet
            exact ⟨by rw [Y1.out], by rw [Y2.out], by rw [Y3.out], rfl⟩
          · obtain ⟨y1, y2, y3⟩ := HX.out.2.2 hc (by omega)
            have Y1 := Lib.hid y1
            have Y2 := Lib.hid y2
            have Y3 := Lib.hid y3
            clear hc y1 y2 y3
            go_wp2_with fail
            go_meet
            exact ⟨by rw [Y1.out], by rw [Y2.out], by rw [Y3.out], rfl⟩
        · have d0 : (c == 0) = false := by simpa using hc
          obtain ⟨y1, y2, y3⟩ := HX.out.1 hc
          have Y1 := Lib.hid y1
          have Y2 := Lib.hid y2
          have Y3 := Lib.hid y3
          clear hc y1 y2 y3
          go_wp2_with fail
          go_meet
          exact ⟨by rw [Y1.out], by rw [Y2.out], by rw [Y3.out], rfl⟩
      case rest =>
        obtain ⟨rfl, rfl, rfl, rfl⟩ := hcut
        clear HX hs10
        go_wp2_with (first
          | (go_at_call 10; refine (all10 _ _ _ _ _ _ wc (rs_nil wc (fun _ => default)) (by omega) HF8.out).mono ?_; rintro e w9 ⟨f, y9, o, rfl, hp, hb9⟩; obtain ⟨rfl, rfl⟩ := hp.none; have HB9 := Lib.hid (HB8.out.trans (hb9.mono HB8.out.size)); clear hb9 hp)
          | (go_at_call 3; refine (ruleRuns_any _).mono ?_; rintro e w10 ⟨rfl, hb10⟩; have HB10 := Lib.hid (HB9.out.trans (hb10.mono HB9.out.size)); clear hb10))
        go_ret
        exact ⟨rfl, HB10.out⟩
end Go.Proofs.Ytfmjlgplcepomaa
