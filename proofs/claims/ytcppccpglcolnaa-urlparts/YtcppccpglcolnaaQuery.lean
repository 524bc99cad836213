/-
  url.readQuery.
-/
import Derived.Test.YtcppccpglcolnaaRead
import Derived.WalkSpells
namespace Go.Proofs.Ytcppccpglcolnaa
open Go.RowKit Go.PlainAid

def rqB (l : List ByteArray) : Bool := decide (l = []) || (splB 38 8 (l.getD 0 default) && (spl 38 (l.getD 0 default)).all (rtB 61 2))
def rqL (l : List ByteArray) : List Pr := if l = [] then [] else if rqB l then (spl 38 (l.getD 0 default)).map prV else []

theorem OwnP.cells_at {w : World} {b : Nat} {x y : ByteArray} {t : TypeId} (h : w.heap[b]? = some (.cells #[.string x, .string y] t (0, 0))) : w.heap[b]? = some (.cells ([(x, y)].flatMap prC).toArray t (0, 0)) := h

theorem blk_new1 (w : World) (x y : Obj) : ((w.alloc x).alloc y).heap[w.heap.size + 1]? = some y := by
  have := blk_new (w.alloc x) y
  simpa using this

set_option maxHeartbeats 1600000 in
theorem readQuery25 (v : Value) (l : List ByteArray) (w : World) (hv : Ss w v l) (hs : ∀ p ∈ l, p.size ≤ 10000) :
    Calls Try.prog 25 #[v] w fun e w' => ∃ v', e = .returned (.tuple #[v', .bool (rqB l)]) ∧ Ps w' v' (rqL l) ∧ Below w.heap.size w w' := by
  obtain ⟨A, cap, rfl, _, _, hc⟩ := hv
  by_cases hl : l = []
  · subst hl
    have hd : rqB [] = true ∧ rqL [] = [] := ⟨rfl, rfl⟩
    have HD := Lib.hid hd
    clear hd
    go_enter Try.func25, Try.ntmps25
    go_wp2
    rw [HD.out.1, HD.out.2]
    go_ret2
    exact ⟨_, rfl, ps_nil _, Below.refl _ _⟩
  · have hn : 0 < l.length := List.length_pos_iff.2 hl
    obtain ⟨b, o, rfl, hc0⟩ := hc 0 hn
    rw [Nat.add_zero] at hc0
    clear hc
    have hq1 : (l.length : Int) ≠ 0 := by omega
    have hq2 : ((l.length : Int) == 0) = false := by simp; omega
    have hq3 : (0 : Int) < (l.length : Int) := by omega
    have hz := hs _ (getD_mem l 0 hn)
    have e1 : rqB l = (splB 38 8 (l.getD 0 default) && (spl 38 (l.getD 0 default)).all (rtB 61 2)) := by rw [rqB, decide_eq_false hl]; rfl
    have e2 : rqL l = if rqB l then (spl 38 (l.getD 0 default)).map prV else [] := by rw [rqL, if_neg hl]
    have E1 := Lib.hid e1
    have E2 := Lib.hid e2
    clear e1 e2 hs hl hn
    generalize l.getD 0 default = q at *
    by_cases hB : splB 38 8 q = true
    · go_enter Try.func25, Try.ntmps25
      go_wp2_with fail
      refine (split23 _ _ 8 _ hz (by omega)).mono ?_
      rintro e w1 ⟨v1, rfl, h1⟩
      rw [hB]
      have hl : splM 38 8 q = spl 38 q := by rw [splM, if_pos (of_decide_eq_true hB)]
      have hl1 : (spl 38 q).length ≤ 100 := by have := of_decide_eq_true hB; omega
      rw [hl] at h1
      obtain ⟨A, cap1, rfl, _, _, hc⟩ := h1.ss
      have H1 := Lib.hid h1
      have HC := Lib.hid hc
      clear h1 hc hl
      have hsz := H1.out.2.2
      go_wp2_with (at_make; refine wpList_mkP _ rfl _ _ rfl w1.heap.size w1 (Below.refl _ _) (Nat.le_refl _) _ (spl 38 q).length rfl rfl rfl (by omega) ?_)
      intro v2 w2 h2 _
      have H2 := Lib.hid h2
      clear h2
      go_wp2_with fail
      go_loopw [6, 28] (fun v i wr => ∃ (k : Nat), k ≤ (spl 38 q).length ∧ i = .int .i64 k ∧ ((spl 38 q).take k).all (rtB 61 2) = true ∧ OwnP w1.heap.size w1 v (((spl 38 q).take k).map prV) wr) (fun _ i _ => (spl 38 q).length - (intOf i).toNat)
      case atStart => exact ⟨0, Nat.zero_le _, rfl, by simp, by simpa using H2.out⟩
      case round =>
        obtain ⟨k, hk, rfl, hall, hown⟩ := hrel
        have HO := Lib.hid hown
        have HA := Lib.hid hall
        clear hown hall
        by_cases hlt : k < (spl 38 q).length
        · obtain ⟨b', o', rfl, hcell⟩ := HC.out k hlt
          have hcell' : wr.cell? ⟨b', o' + k, none⟩ = some (.string ((spl 38 q).getD k default)) := by rw [HO.out.2.1.cell (World.block_lt_of_cell? _ _ hcell)]; exact hcell
          have hmem := getD_mem (spl 38 q) k hlt
          have hsz1 := spl_size 38 q _ hmem
          have c0 : (k : Int) < ((spl 38 q).length : Int) := by omega
          have HN := Lib.hid (take_next prV (spl 38 q) k hlt)
          have HL := Lib.hid (all_next (rtB 61 2) (spl 38 q) k hlt)
          have HQ := Lib.hid (all_not (rtB 61 2) (spl 38 q) k hlt)
          have eb : Hid ((((spl 38 q).take k).map prV).length ≤ 100000) := by show _ ≤ _; simp; omega
          clear hmem hcell
          generalize (spl 38 q).getD k default = p at *
          by_cases hp : rtB 61 2 p = true
          · go_wp2_with (first | (go_at_call 36; refine (readPair36 _ _ (by omega)).mono ?_; rintro e w3 ⟨rfl, h3⟩; rw [hp]; have H3 := Lib.hid h3; clear h3) | (at_builtin; refine wpList_appP _ rfl (.tmp 39) (.tmp 41) rfl w1.heap.size w1 _ (((spl 38 q).take k).map prV) rfl (((HO.out.call H3.out).alloc _).alloc _) ?b1 (w3.heap.size + 1) 1 1 [prV p] rfl rfl (by omega) (blk_new1 _ _ _) ?_))
            case b1 => exact eb.out
            intro v4 w4 h4 _ _
            have H4 := Lib.hid h4
            clear h4
            go_wp2_with fail
            go_roundw
            case rel => exact ⟨k + 1, by omega, by go_num, by rw [HL.out, HA.out, hp]; rfl, by rw [HN.out]; simpa using H4.out⟩
            case measure => simp [intOf]; omega
          · have hp : rtB 61 2 p = false := by simpa using hp
            have hd : rqB l = false ∧ rqL l = [] := by
              have : rqB l = false := by rw [E1.out, HQ.out hp]; simp
              exact ⟨this, by rw [E2.out, this]; rfl⟩
            have HD := Lib.hid hd
            clear hd
            go_wp2_with (first | (go_at_call 36; refine (readPair36 _ _ (by omega)).mono ?_; rintro e w3 ⟨rfl, h3⟩; rw [hp]; have H3 := Lib.hid h3; clear h3))
            rw [HD.out.1, HD.out.2]
            go_ret2
            exact ⟨_, rfl, ps_nil _, ((H1.out.2.1.trans (HO.out.2.1.mono hsz)).trans (H3.out.mono (by have := HO.out.2.2; omega))).alloc (by have := HO.out.2.2; have := H3.out.size; omega) _⟩
        · obtain rfl : k = (spl 38 q).length := by omega
          have ha : (spl 38 q).all (rtB 61 2) = true := by simpa using HA.out
          have hd : rqB l = true ∧ rqL l = (spl 38 q).map prV := by
            have : rqB l = true := by rw [E1.out, hB, ha]; rfl
            exact ⟨this, by rw [E2.out, if_pos this]⟩
          have HD := Lib.hid hd
          clear hd ha
          go_wp2
          rw [HD.out.1, HD.out.2]
          go_ret2
          refine ⟨_, rfl, by simpa using HO.out.ps, H1.out.2.1.trans (HO.out.2.1.mono hsz)⟩
    · have hB : splB 38 8 q = false := by simpa using hB
      have hd : rqB l = false ∧ rqL l = [] := by
        have : rqB l = false := by rw [E1.out, hB]; rfl
        exact ⟨this, by rw [E2.out, this]; rfl⟩
      have HD := Lib.hid hd
      clear hd
      go_enter Try.func25, Try.ntmps25
      go_wp2_with fail
      refine (split23 _ _ 8 _ hz (by omega)).mono ?_
      rintro e w1 ⟨v1, rfl, h1⟩
      rw [hB]
      have H1 := Lib.hid h1
      clear h1
      go_wp2
      rw [HD.out.1, HD.out.2]
      go_ret2
      exact ⟨_, rfl, ps_nil _, H1.out.2.1⟩
end Go.Proofs.Ytcppccpglcolnaa
