/-
  url.readTexts, readPath, readPair.
-/
import Derived.Test.YtcppccpglcolnaaSplit
import Derived.Test.YtcppccpglcolnaaDec
import Derived.Test.YtcppccpglcolnaaKp
import Derived.Laws.ResultCell
namespace Go.Proofs.Ytcppccpglcolnaa
open Go.RowKit Go.PlainAid

def rtB (m : Int) (M : Nat) (s : ByteArray) : Bool := splB m M s && (spl m s).all decB
def rtL (m : Int) (M : Nat) (s : ByteArray) : List ByteArray := if rtB m M s then (spl m s).map decS else []

theorem size_st0 : (⟨#[]⟩ : ByteArray).size = 0 := rfl

theorem getD_mem {α : Type} [Inhabited α] (l : List α) (k : Nat) (h : k < l.length) : l.getD k default ∈ l := by
  simp [List.getD, h]
theorem take_next {α β : Type} [Inhabited α] (f : α → β) (l : List α) (k : Nat) (h : k < l.length) : (l.take (k + 1)).map f = (l.take k).map f ++ [f (l.getD k default)] := by
  have e : l.take (k + 1) = l.take k ++ [l.getD k default] := by
    rw [List.take_add_one]
    simp only [List.getD, List.getElem?_eq_getElem h, Option.toList_some, Option.getD_some]
  rw [e, List.map_append]
  rfl
theorem all_next {α : Type} [Inhabited α] (f : α → Bool) (l : List α) (k : Nat) (h : k < l.length) : (l.take (k + 1)).all f = ((l.take k).all f && f (l.getD k default)) := by
  have e : l.take (k + 1) = l.take k ++ [l.getD k default] := by
    rw [List.take_add_one]
    simp only [List.getD, List.getElem?_eq_getElem h, Option.toList_some, Option.getD_some]
  rw [e, List.all_append]
  simp
theorem all_not {α : Type} [Inhabited α] (f : α → Bool) (l : List α) (k : Nat) (h : k < l.length) (hf : f (l.getD k default) = false) : l.all f = false := by
  rw [List.all_eq_false]
  exact ⟨_, getD_mem l k h, by rw [hf]; decide⟩

set_option maxHeartbeats 1600000 in
theorem readTexts35 (s : ByteArray) (m : Int) (M : Nat) (w : World) (hs : s.size ≤ 10000) (hM : 1 ≤ M ∧ M ≤ 100) :
    Calls Try.prog 35 #[.string s, .int .u8 m, .int .i64 M] w fun e w' => ∃ v, e = .returned (.tuple #[v, .bool (rtB m M s)]) ∧ Ss w' v (rtL m M s) ∧ Below w.heap.size w w' := by
  by_cases hB : splB m M s = true
  · go_enter Try.func35, Try.ntmps35
    go_wp2_with fail
    refine (split23 _ _ _ _ hs hM).mono ?_
    rintro e w1 ⟨v1, rfl, h1⟩
    rw [hB]
    have hl : splM m M s = spl m s := by rw [splM, if_pos (of_decide_eq_true hB)]
    have hl1 : (spl m s).length ≤ 100 := by have := of_decide_eq_true hB; omega
    rw [hl] at h1
    obtain ⟨A, cap, rfl, _, _, hc⟩ := h1.ss
    have H1 := Lib.hid h1
    have HC := Lib.hid hc
    clear h1 hc hl
    have hsz := H1.out.2.2
    go_wp2_with (at_make; refine wpList_mkS _ rfl _ _ rfl w1.heap.size w1 (Below.refl _ _) (Nat.le_refl _) _ (spl m s).length rfl rfl rfl (by omega) ?_)
    intro v2 w2 h2 _
    have H2 := Lib.hid h2
    clear h2
    go_wp2_with fail
    go_loopw [10, 29] (fun v i wr => ∃ (k : Nat), k ≤ (spl m s).length ∧ i = .int .i64 k ∧ ((spl m s).take k).all decB = true ∧ OwnS w1.heap.size w1 v (((spl m s).take k).map decS) wr) (fun _ i _ => (spl m s).length - (intOf i).toNat)
    case atStart => exact ⟨0, Nat.zero_le _, rfl, by simp, by simpa using H2.out⟩
    case round =>
      obtain ⟨k, hk, rfl, hall, hown⟩ := hrel
      have HO := Lib.hid hown
      have HA := Lib.hid hall
      clear hown hall
      by_cases hlt : k < (spl m s).length
      · obtain ⟨b, o, rfl, hcell⟩ := HC.out k hlt
        have hcell' : wr.cell? ⟨b, o + k, none⟩ = some (.string ((spl m s).getD k default)) := by rw [HO.out.2.1.cell (World.block_lt_of_cell? _ _ hcell)]; exact hcell
        have hmem := getD_mem (spl m s) k hlt
        have hsz1 := spl_size m s _ hmem
        have c0 : (k : Int) < ((spl m s).length : Int) := by omega
        have HN := Lib.hid (take_next decS (spl m s) k hlt)
        have HL := Lib.hid (all_next decB (spl m s) k hlt)
        have HQ := Lib.hid (all_not decB (spl m s) k hlt)
        have eb : Hid ((((spl m s).take k).map decS).length ≤ 100000) := by show _ ≤ _; simp; omega
        clear hmem hcell
        generalize (spl m s).getD k default = p at *
        by_cases hp : decB p = true
        · go_wp2_with (first | (go_at_call 40; refine (decodeP _ _ (by omega)).mono ?_; rintro e w3 ⟨rfl, h3⟩; rw [hp]; have H3 := Lib.hid h3; clear h3) | (at_builtin; refine wpList_appS _ rfl (.tmp 40) (.tmp 42) rfl w1.heap.size w1 _ _ rfl ((HO.out.call H3.out).alloc _) ?b1 w3.heap.size 1 1 [decS p] rfl rfl (by omega) (heap_alloc_new _ _) ?_))
          case b1 => exact eb.out
          intro v4 w4 h4 _ _
          have H4 := Lib.hid h4
          clear h4
          go_wp2_with fail
          go_roundw
          case rel => exact ⟨k + 1, by omega, by go_num, by rw [HL.out, HA.out, hp]; rfl, by rw [HN.out, List.map_take]; exact H4.out⟩
          case measure => simp [intOf]; omega
        · have hp : decB p = false := by simpa using hp
          have hd : rtB m M s = false ∧ rtL m M s = [] := by
            have : rtB m M s = false := by rw [rtB, HQ.out hp]; simp
            exact ⟨this, by rw [rtL, this]; rfl⟩
          have HD := Lib.hid hd
          clear hd
          go_wp2_with (first | (go_at_call 40; refine (decodeP _ _ (by omega)).mono ?_; rintro e w3 ⟨rfl, h3⟩; rw [hp]; have H3 := Lib.hid h3; clear h3))
          rw [HD.out.1, HD.out.2]
          go_ret2
          exact ⟨_, rfl, ss_nil _, (H1.out.2.1.trans (HO.out.2.1.mono hsz)).trans (H3.out.mono (by have := HO.out.2.2; omega))⟩
      · obtain rfl : k = (spl m s).length := by omega
        have ha : (spl m s).all decB = true := by simpa using HA.out
        have hd : rtB m M s = true ∧ rtL m M s = (spl m s).map decS := by
          have : rtB m M s = true := by rw [rtB, hB, ha]; rfl
          exact ⟨this, by rw [rtL, if_pos this]⟩
        have HD := Lib.hid hd
        clear hd ha
        go_wp2
        rw [HD.out.1, HD.out.2]
        go_ret2
        refine ⟨_, rfl, by simpa using HO.out.ss, H1.out.2.1.trans (HO.out.2.1.mono hsz)⟩
  · have hB : splB m M s = false := by simpa using hB
    have hd : rtB m M s = false ∧ rtL m M s = [] := by
      have : rtB m M s = false := by rw [rtB, hB]; rfl
      exact ⟨this, by rw [rtL, this]; rfl⟩
    have HD := Lib.hid hd
    clear hd
    go_enter Try.func35, Try.ntmps35
    go_wp2_with fail
    refine (split23 _ _ _ _ hs hM).mono ?_
    rintro e w1 ⟨v1, rfl, h1⟩
    rw [hB]
    have H1 := Lib.hid h1
    clear h1
    go_wp2
    rw [HD.out.1, HD.out.2]
    go_ret2
    exact ⟨_, rfl, ss_nil _, H1.out.2.1⟩

def rpB (s : ByteArray) : Bool := decide (s = ⟨#[47]⟩) || rtB 47 8 (s.extract 1 s.size)
def rpL (s : ByteArray) : List ByteArray := if s = ⟨#[47]⟩ then [] else rtL 47 8 (s.extract 1 s.size)

set_option maxHeartbeats 1600000 in
theorem readPath24 (s : ByteArray) (w : World) (hs : s.size ≤ 10000) (h1 : 1 ≤ s.size) :
    Calls Try.prog 24 #[.string s] w fun e w' => ∃ v, e = .returned (.tuple #[v, .bool (rpB s)]) ∧ Ss w' v (rpL s) ∧ Below w.heap.size w w' := by
  have c1 : (1 : Int) ≤ (s.size : Int) := by omega
  have hbe : (s.toList == [47]) = decide (s = ⟨#[47]⟩) := by
    have := bs_eq s ⟨#[47]⟩
    rw [Lib.toList_data ⟨#[47]⟩] at this
    exact this
  by_cases hq : s = ⟨#[47]⟩
  · have hd : rpB s = true ∧ rpL s = [] := ⟨by rw [rpB, decide_eq_true hq]; rfl, by rw [rpL, if_pos hq]⟩
    have HD := Lib.hid hd
    clear hd
    rw [decide_eq_true hq] at hbe
    go_enter Try.func24, Try.ntmps24
    go_wp2
    rw [HD.out.1, HD.out.2]
    go_ret2
    exact ⟨_, rfl, ss_nil _, Below.refl _ _⟩
  · have hd : rpB s = rtB 47 8 (s.extract 1 s.size) ∧ rpL s = rtL 47 8 (s.extract 1 s.size) := ⟨by rw [rpB, decide_eq_false hq]; rfl, by rw [rpL, if_neg hq]⟩
    have HD := Lib.hid hd
    clear hd
    rw [decide_eq_false hq] at hbe
    have hz := tail_size s 1
    go_enter Try.func24, Try.ntmps24
    go_wp2_with fail
    refine (readTexts35 _ _ 8 _ (by omega) (by omega)).mono ?_
    rintro e w1 ⟨v1, rfl, h1⟩
    have H1 := Lib.hid h1
    clear h1
    go_wp2
    rw [HD.out.1, HD.out.2]
    go_ret2
    exact ⟨_, rfl, H1.out⟩

theorem rtL_len (m : Int) (M : Nat) (s : ByteArray) (h : rtB m M s = true) : (rtL m M s).length = (spl m s).length ∧ (spl m s).length ≤ M := by
  rw [rtL, if_pos h, List.length_map]
  rw [rtB, Bool.and_eq_true] at h
  exact ⟨rfl, of_decide_eq_true h.1⟩
def prV (s : ByteArray) : Pr := ((rtL 61 2 s).getD 0 ⟨#[]⟩, (rtL 61 2 s).getD 1 ⟨#[]⟩)
theorem below_two {w w1 : World} {o : Obj} (h : Below (w.alloc o).heap.size (w.alloc o) w1) : Below w.heap.size w w1 ∧ w.heap.size < w1.heap.size ∧ ∀ x y, Below w.heap.size w ((w1.setCell ⟨w.heap.size, 0, none⟩ x).setCell ⟨w.heap.size, 1, none⟩ y) := by
  have h0 : Below w.heap.size w w1 := ((Below.refl _ w).alloc (Nat.le_refl _) o).trans (h.mono (by simp))
  have := h.size
  exact ⟨h0, by simp at this; omega, fun x y => (h0.setCell (Nat.le_refl _) _).setCell (Nat.le_refl _) _⟩

set_option maxHeartbeats 1600000 in
theorem readPair36 (s : ByteArray) (w : World) (hs : s.size ≤ 10000) :
    Calls Try.prog 36 #[.string s] w fun e w' => e = .returned (.tuple #[.agg #[.string (prV s).1, .string (prV s).2], .bool (rtB 61 2 s)]) ∧ Below w.heap.size w w' := by
  by_cases hB : rtB 61 2 s = true
  · obtain ⟨l1, l2⟩ := rtL_len 61 2 s hB
    have l3 := spl_ne 61 s
    by_cases h1 : (rtL 61 2 s).length = 1
    · obtain ⟨x, hx⟩ : ∃ x, rtL 61 2 s = [x] := by
        match h : rtL 61 2 s, h1 with
        | [x], _ => exact ⟨x, rfl⟩
      have hd : (prV s).1 = x ∧ (prV s).2 = ⟨#[]⟩ := by simp [prV, hx]
      have HD := Lib.hid hd
      clear hd
      go_enter Try.func36, Try.ntmps36
      go_wp2_with fail
      refine (readTexts35 _ _ 2 _ (by omega) (by omega)).mono ?_
      rintro e w1 ⟨v1, rfl, h2, h3⟩
      rw [hB]
      rw [hx] at h2
      obtain ⟨A, cap, rfl, _, _, hc⟩ := h2
      obtain ⟨b, o, rfl, hc0⟩ := hc 0 (by simp)
      simp at hc0
      clear hc
      have H3 := Lib.hid h3
      clear h3
      have HK := Lib.hid (blk_call (blk_new _ _) H3.out)
      obtain ⟨c0, c1, f0, f1⟩ := blk2 HK.out
      go_wp2
      rw [HD.out.1, HD.out.2]
      refine bodyPost_ret (v := .tuple #[.agg #[.string x, .string ⟨#[]⟩], .bool true]) ?_ rfl ⟨by rw [hB], ?_⟩
      · rw [results_cell_tmp rfl]
        go_simp
      · exact (below_two H3.out).2.2 _ _
    · obtain ⟨x, y, hx⟩ : ∃ x y, rtL 61 2 s = [x, y] := by
        match h : rtL 61 2 s, (show (rtL 61 2 s).length = 2 by omega) with
        | [x, y], _ => exact ⟨x, y, rfl⟩
      have hd : (prV s).1 = x ∧ (prV s).2 = y := by simp [prV, hx]
      have HD := Lib.hid hd
      clear hd
      go_enter Try.func36, Try.ntmps36
      go_wp2_with fail
      refine (readTexts35 _ _ 2 _ (by omega) (by omega)).mono ?_
      rintro e w1 ⟨v1, rfl, h2, h3⟩
      rw [hB]
      rw [hx] at h2
      obtain ⟨A, cap, rfl, _, _, hc⟩ := h2
      obtain ⟨b, o, rfl, hc0⟩ := hc 0 (by simp)
      obtain ⟨b', o', hbo, hc1⟩ := hc 1 (by simp)
      cases hbo
      simp at hc0 hc1
      clear hc
      have H3 := Lib.hid h3
      clear h3
      have HK := Lib.hid (blk_call (blk_new _ _) H3.out)
      obtain ⟨c0, c1, f0, f1⟩ := blk2 HK.out
      go_wp2_with fail
      go_region
      go_wp2
      rw [HD.out.1, HD.out.2]
      refine bodyPost_ret (v := .tuple #[.agg #[.string x, .string y], .bool true]) ?_ rfl ⟨by rw [hB], ?_⟩
      · rw [results_cell_tmp rfl]
        go_simp
      · exact ((below_two H3.out).2.2 _ _).drew
  · have hB : rtB 61 2 s = false := by simpa using hB
    have hd : (prV s).1 = ⟨#[]⟩ ∧ (prV s).2 = ⟨#[]⟩ := by simp [prV, rtL, hB]
    have HD := Lib.hid hd
    clear hd
    go_enter Try.func36, Try.ntmps36
    go_wp2_with fail
    refine (readTexts35 _ _ 2 _ (by omega) (by omega)).mono ?_
    rintro e w1 ⟨v1, rfl, h2, h3⟩
    rw [hB]
    have H2 := Lib.hid h2
    have H3 := Lib.hid h3
    clear h2 h3
    have HK := Lib.hid (blk_call (blk_new _ _) H3.out)
    obtain ⟨c0, c1, f0, f1⟩ := blk2 HK.out
    go_wp2
    rw [HD.out.1, HD.out.2]
    refine bodyPost_ret (v := .tuple #[.agg #[.string ⟨#[]⟩, .string ⟨#[]⟩], .bool false]) ?_ rfl ⟨by rw [hB], ?_⟩
    · rw [results_cell_tmp rfl]
      go_simp
    · exact (below_two H3.out).2.2 _ _

end Go.Proofs.Ytcppccpglcolnaa
