/-
  route's Full.
-/
import Derived.Test.YtnnmbpghkflepaaGreatDoorChn
namespace Go.Proofs.YtnnmbpghkflepaaGreatDoor
open Go.RowKit Go.PlainAid
set_option maxRecDepth 100000

/-- few records, with few segments each -/
def Fit (l : List Rc) : Prop := l.length ≤ 20 ∧ ∀ r ∈ l, r.l.length ≤ 10
/-- the segments of these places, one behind the other -/
def sgsOf (l : List Rc) (c : List Nat) : List Sg := c.flatMap (fun k => (l.getD k default).l)
/-- the segments of a chain -/
def fuL (l : List Rc) (i : Int) : List Sg := sgsOf l (chL l i)
theorem sgs_next (l : List Rc) (c : List Nat) (k : Nat) (h : k < c.length) : sgsOf l (c.take (k + 1)) = sgsOf l (c.take k) ++ (l.getD (c.getD k 0) default).l := by
  have e : c.take (k + 1) = c.take k ++ [c.getD k 0] := by
    rw [List.take_add_one]
    simp only [List.getD, List.getElem?_eq_getElem h, Option.toList_some, Option.getD_some]
  rw [e, sgsOf, List.flatMap_append]
  simp [sgsOf]
theorem sgs_len {l : List Rc} (hf : Fit l) (c : List Nat) : (sgsOf l c).length ≤ c.length * 10 := by
  induction c with
  | nil => simp [sgsOf]
  | cons k c ih =>
    have : (l.getD k default).l.length ≤ 10 := by
      by_cases h : k < l.length
      · exact hf.2 _ (getD_mem l k h)
      · simp [List.getD, List.getElem?_eq_none (show l.length ≤ k by omega)]; decide
    simp [sgsOf] at ih this ⊢
    omega
theorem fu_len {l : List Rc} (hf : Fit l) (i : Int) : (fuL l i).length ≤ 200 := by
  have h1 := sgs_len hf (chL l i)
  have h2 := ch_len l i
  have h3 := hf.1
  unfold fuL
  omega

theorem OwnG.rebase {B B' : Nat} {w0 w1 w : World} {v : Value} {xs : List Sg} (h : OwnG B w1 v xs w) (hB : B' ≤ B) (hb : Below B' w0 w1) : OwnG B' w0 v xs w := by
  obtain ⟨⟨h1, h2⟩, h3, h4⟩ := h
  refine ⟨⟨h1, ?_⟩, hb.trans (h3.mono hB), by omega⟩
  rcases h2 with h2 | ⟨g, cap, cur, r1, r2, r3⟩
  · exact Or.inl h2
  · exact Or.inr ⟨g, cap, cur, r1, by omega, r3⟩

set_option maxHeartbeats 6400000 in
theorem full21 (v : Value) (l : List Rc) (i : Int) (w : World) (h : Rs w v l) (hf : Fit l) :
    Calls Tryz.prog 21 #[v, .int .i64 i] w fun e w' => ∃ u, e = .returned u ∧ OwnG w.heap.size w u (fuL l i) w' := by
  have HS := Lib.hid h
  have HF := Lib.hid hf
  have HC := Lib.hid (chain24 v l i w h (by have := hf.1; omega))
  have HL := Lib.hid (ch_len l i)
  have HT := Lib.hid (ch_lt l i)
  have hE : fuL l i = sgsOf l (chL l i) := rfl
  rw [hE]
  clear hE
  obtain ⟨A, cap, rfl⟩ := h.len
  clear h hf
  generalize chL l i = ch at *
  go_enter Tryz.func21, Tryz.ntmps21
  go_wp2_with (first | (go_at_call 24; refine HC.out.mono ?_; rintro e w1 ⟨u, rfl, hn, hb⟩; have B1 := Lib.hid hb; obtain ⟨A1, c1, e1, -, -, hc⟩ := hn; subst e1; have C1 := Lib.hid hc; clear hb hc))
  go_loopw [5, 12] (fun s5 s12 wr => ∃ (k : Nat), k ≤ ch.length ∧ s12 = .int .i64 k ∧ Hid (OwnG w1.heap.size w1 s5 (sgsOf l (ch.take k)) wr)) (fun _ s12 _ => ch.length - (intOf s12).toNat)
  case atStart => exact ⟨0, Nat.zero_le _, rfl, nilG _ _ _ (Below.refl _ _) (Nat.le_refl _)⟩
  case round =>
    obtain ⟨k, hk, rfl, HO⟩ := hrel
    have hb9 : ch.length ≤ 1000 := by have h2 := HL.out; have h3 := HF.out.1; omega
    have HB := Lib.hid HO.out.2.1
    obtain ⟨A5, n5, c5, h5⟩ := HO.out.gs.shape
    subst h5
    by_cases hlt : k < ch.length
    · have d0 : (k : Int) < (ch.length : Int) := by omega
      obtain ⟨x, o, rfl, hcell⟩ := C1.out k hlt
      have g0 : wr.cell? ⟨x, o + k, none⟩ = some (.int .i64 (ch.getD k 0 : Nat)) := by rw [HB.out.cell (World.block_lt_of_cell? _ _ hcell)]; exact hcell
      have HN := Lib.hid (sgs_next l ch k hlt)
      have HM := Lib.hid (sgs_len HF.out (ch.take k))
      have hy := HT.out (ch.getD k 0) (by simp [List.getD, hlt])
      clear hcell
      generalize ch.getD k 0 = y at *
      have HBB : Hid (Below w.heap.size w wr) := B1.out.trans (HB.out.mono B1.out.size)
      obtain ⟨x2, o2, rfl, hat, hgs⟩ := (HS.out.call HBB.out).at y hy
      have g2 := hat.c2
      have GS := Lib.hid hgs
      have hs10 : Hid ((l.getD y default).l.length ≤ 10) := HF.out.2 _ (getD_mem l y hy)
      have d1 : (y : Int) < (l.length : Int) := by omega
      clear hat hgs
      obtain ⟨A7, n7, c7, h7⟩ := GS.out.shape
      rw [h7] at g2 GS
      go_wp2_with (first
        | (at_builtin; refine wpList_catG wr rfl (.tmp 16) (.tmp 21) rfl w1.heap.size w1 _ _ rfl HO.out (by have h1 := HM.out; have h2 := HL.out; have h3 := HF.out.1; rw [List.length_take] at h1; omega) _ _ rfl hs10.out GS.out ?_; intro v6 w6 h6 hg6; have H6 := Lib.hid h6; obtain ⟨A6, n6, c6, e6⟩ := h6.gs.shape; subst e6; clear h6 hg6))
      go_roundw
      case rel =>
        refine ⟨k + 1, by omega, by go_num, ?_⟩
        rw [HN.out]
        exact H6.out
      case measure => simp [intOf]; omega
    · obtain rfl : k = ch.length := by omega
      rw [List.take_length] at HO
      go_wp2
      go_ret
      exact ⟨_, rfl, HO.out.rebase B1.out.size B1.out⟩
end Go.Proofs.YtnnmbpghkflepaaGreatDoor
