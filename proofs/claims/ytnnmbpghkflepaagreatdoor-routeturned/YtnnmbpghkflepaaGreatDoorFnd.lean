/-
  trie's Find, All and Len.
-/
import Derived.Test.YtnnmbpghkflepaaGreatDoorNew
import Derived.Deep.OwnRows
namespace Go.Proofs.YtnnmbpghkflepaaGreatDoor
open Go.RowKit Go.PlainAid
set_option maxRecDepth 100000

instance : Inhabited En := ⟨⟨0, .slice none 0 0, []⟩⟩
theorem enC_at (l : List En) (i : Nat) (h : i < l.length) : (l.flatMap enC)[i * 2]? = some (.int .i64 (l.getD i default).n) ∧ (l.flatMap enC)[i * 2 + 1]? = some (l.getD i default).u := by
  induction l generalizing i with
  | nil => simp at h
  | cons p l ih =>
    cases i with
    | zero => simp [enC]
    | succ i =>
      have := ih i (by simpa using h)
      have e : (p :: l).flatMap enC = enC p ++ l.flatMap enC := rfl
      rw [e]
      constructor
      · rw [List.getElem?_append_right (by simp [enC]; omega)]
        have e2 : (i + 1) * 2 - (enC p).length = i * 2 := by simp [enC]; omega
        rw [e2]; simpa using this.1
      · rw [List.getElem?_append_right (by simp [enC]; omega)]
        have e2 : (i + 1) * 2 + 1 - (enC p).length = i * 2 + 1 := by simp [enC]; omega
        rw [e2]; simpa using this.2
/-- the slice holds these entries -/
def Es (w : World) (v : Value) (xs : List En) : Prop :=
  ∃ A cap, v = .slice A xs.length cap ∧ ∀ i, i < xs.length → ∃ g, A = some ⟨g, 0, none⟩ ∧ w.cell? ⟨g, i * 2, none⟩ = some (.int .i64 (xs.getD i default).n) ∧ w.cell? ⟨g, i * 2 + 1, none⟩ = some (xs.getD i default).u
theorem OwnE.es {F : Nat} {wF : World} {v : Value} {xs : List En} {w : World} (h : OwnE F wF v xs w) : Es w v xs := by
  have hc := @World.ownsRow.cells _ _ _ _ _ _ _ h.1
  obtain ⟨hl, ⟨rfl, h1⟩ | ⟨g, cap, cur, rfl, _, _, h4, _⟩⟩ := h.1
  · obtain rfl : xs = [] := List.eq_nil_of_length_eq_zero h1
    exact ⟨none, 0, rfl, fun i hi => by simp at hi⟩
  · refine ⟨some ⟨g, 0, none⟩, cap, rfl, fun i hi => ⟨g, rfl, ?_, ?_⟩⟩
    · have := hc rfl (i * 2) _ (enC_at xs i hi).1
      rw [add_lit', Nat.zero_add] at this
      exact this
    · have := hc rfl (i * 2 + 1) _ (enC_at xs i hi).2
      rw [add_lit', Nat.zero_add] at this
      exact this

/-- in the order of rank -/
def Srt (ls : List (List Sg)) (es : List En) : Prop :=
  (∀ e ∈ es, e.n < ls.length ∧ e.l = ls.getD e.n default ∧ rgB e.l = true) ∧ (∀ i, i < ls.length → rgB (ls.getD i default) = true → ∃ e ∈ es, e.n = i) ∧ es.Pairwise (fun a b => cW ls a.n b.n < 0)
/-- those that have the path -/
def mat (es : List En) (path : List ByteArray) : List En := es.filter (fun e => mtB e.l path)
theorem cW_le {ls : List (List Sg)} {i k : Nat} (h : cW ls i k < 0) : cP (ls.getD i default) (ls.getD k default) ≤ 0 := by
  unfold cW at h
  split at h
  · omega
  · rename_i h1
    simp at h1
    rw [List.getD_eq_getElem?_getD, List.getD_eq_getElem?_getD, h1]
    omega
theorem Srt.wlk {ls : List (List Sg)} {es : List En} (h : Srt ls es) (path : List ByteArray) : wlk En.l es [] path = mat es path := by
  have hp : es.Pairwise (fun a b => cW ls a.n b.n < 0 ∧ a.l = ls.getD a.n default ∧ b.l = ls.getD b.n default) :=
    h.2.2.imp_of_mem fun ha hb hc => ⟨hc, (h.1 _ ha).2.1, (h.1 _ hb).2.1⟩
  refine wlk_is En.l hp (fun a b h1 h2 => ?_) (fun a b h1 => ?_) (fun e he => (h.1 e he).2.2) path
  · have := (tcW ls).anti a.n b.n
    omega
  · rw [h1.2.1, h1.2.2]
    exact cW_le h1.1
theorem idx_lt {ls : List (List Sg)} {k : Nat} : (idxR ls k).Pairwise (· < ·) := List.Pairwise.sublist List.filter_sublist List.pairwise_lt_range
theorem idx_mem {ls : List (List Sg)} {k i : Nat} : i ∈ idxR ls k ↔ i < k ∧ rgB (ls.getD i default) = true := by
  rw [idxR, List.mem_filter, List.mem_range]
theorem nat_mem (l : List Nat) (k : Nat) (h : k < l.length) : l.getD k 0 ∈ l := by simp [List.getD, h]
theorem getR_at (ls : List (List Sg)) (N : List Nat) (p : Nat) (h : p < N.length) : (getR ls N).getD p default = ls.getD (N.getD p 0) default := by
  simp [getR, List.getD, h]
theorem srt_of {ls : List (List Sg)} {es : List En} {ps : List Nat} (hp : Places (getR ls (idxR ls ls.length)) ps) (he : es.map (fun e => (e.n, e.l)) = ps.map (fun p => ((idxR ls ls.length).getD p 0, (getR ls (idxR ls ls.length)).getD p default))) : Srt ls es := by
  have hl : (getR ls (idxR ls ls.length)).length = (idxR ls ls.length).length := by simp [getR]
  have hm : ∀ p, p ∈ ps ↔ p < (idxR ls ls.length).length := by
    intro p
    rw [hp.1.mem_iff, List.mem_range, hl]
  have hlt := idx_lt (ls := ls) (k := ls.length)
  have hme := fun i => idx_mem (ls := ls) (k := ls.length) (i := i)
  have hp2 := hp.2
  have hg := getR_at ls (idxR ls ls.length)
  generalize idxR ls ls.length = N at *
  have mem : ∀ e ∈ es, ∃ p, p < N.length ∧ e.n = N.getD p 0 ∧ e.l = ls.getD (N.getD p 0) default := by
    intro e h
    have : (e.n, e.l) ∈ es.map (fun e => (e.n, e.l)) := List.mem_map.2 ⟨e, h, rfl⟩
    rw [he, List.mem_map] at this
    obtain ⟨p, h1, h2⟩ := this
    have h3 := (hm p).1 h1
    rw [hg p h3] at h2
    exact ⟨p, h3, (Prod.mk.inj h2).1.symm, (Prod.mk.inj h2).2.symm⟩
  refine ⟨fun e h => ?_, fun i hi hr => ?_, ?_⟩
  · obtain ⟨p, h1, h2, h3⟩ := mem e h
    have h4 := (hme _).1 (nat_mem N p h1)
    rw [h2, h3]
    exact ⟨h4.1, rfl, h4.2⟩
  · have h1 := (hme i).2 ⟨hi, hr⟩
    obtain ⟨p, h2, h3⟩ := List.getElem_of_mem h1
    have h4 : (N.getD p 0, (getR ls N).getD p default) ∈ ps.map (fun p => (N.getD p 0, (getR ls N).getD p default)) := List.mem_map.2 ⟨p, (hm p).2 h2, rfl⟩
    rw [← he, List.mem_map] at h4
    obtain ⟨e, h5, h6⟩ := h4
    refine ⟨e, h5, ?_⟩
    have h7 : e.n = N.getD p 0 := (Prod.mk.inj h6).1
    rw [h7]
    simp [List.getD, h2, h3]
  · have h1 : (es.map (fun e => (e.n, e.l))).Pairwise (fun a b => cW ls a.1 b.1 < 0) := by
      rw [he, List.pairwise_map]
      refine hp2.imp_of_mem fun {a b} ha hb hc => ?_
      have ha := (hm a).1 ha
      have hb := (hm b).1 hb
      unfold cW at hc ⊢
      rw [hg a ha, hg b hb] at hc
      split at hc
      · rename_i hne
        simp only
        rw [if_pos hne]
        exact hc
      · rename_i hne
        simp only
        rw [if_neg hne]
        have hab : a < b := by
          have := cI_cases (a : Int) (b : Int)
          omega
        rw [List.pairwise_iff_getElem] at hlt
        have h9 := hlt a b ha hb hab
        have e1 : N.getD a 0 = N[a] := by simp [List.getD, ha]
        have e2 : N.getD b 0 = N[b] := by simp [List.getD, hb]
        rw [e1, e2]
        have := cI_cases (N[a] : Int) (N[b] : Int)
        omega
    rw [List.pairwise_map] at h1
    exact h1
/-- all that have the path, by their numbers -/
def AllN (ls : List (List Sg)) (path : List ByteArray) (al : List Nat) : Prop := al.Pairwise (fun i k => cW ls i k < 0) ∧ ∀ i, i ∈ al ↔ i < ls.length ∧ mtB (ls.getD i default) path = true
theorem mt_right {l : List Sg} {path : List ByteArray} (h : mtB l path = true) : rgB l = true := by
  by_cases hr : rgB l = true
  · exact hr
  · rw [mtB, mtO, if_neg hr] at h
    cases h
theorem Srt.all {ls : List (List Sg)} {es : List En} (h : Srt ls es) (path : List ByteArray) : AllN ls path ((mat es path).map En.n) := by
  constructor
  · rw [List.pairwise_map]
    exact h.2.2.sublist List.filter_sublist
  · intro i
    rw [List.mem_map]
    constructor
    · rintro ⟨e, he, rfl⟩
      rw [mat, List.mem_filter] at he
      obtain ⟨h1, h2, _⟩ := h.1 e he.1
      rw [h2] at he
      exact ⟨h1, he.2⟩
    · rintro ⟨h1, h2⟩
      obtain ⟨e, h3, h4⟩ := h.2.1 i h1 (mt_right h2)
      refine ⟨e, ?_, h4⟩
      rw [mat, List.mem_filter]
      refine ⟨h3, ?_⟩
      rw [(h.1 e h3).2.1, h4]
      exact h2
/-- what Find tells -/
def fnN (xs : List En) : Int := match xs with | [] => -1 | e :: _ => e.n
def fnL (xs : List En) (path : List ByteArray) : List Pr := match xs with | [] => [] | e :: _ => mtL e.l path
def fnB (xs : List En) : Bool := !xs.isEmpty
section
variable {wF w0 : World} {B T cnt : Nat} {es : List En} {nd : Key → Option Nat} {ro : Nat → Option (Key × Nat)} {c : Nat}
theorem Tr.gs (h : Tr B w0 T cnt es nd ro c wF) (hB0 : w0.heap.size ≤ B) {e : En} (he : e ∈ es) : Gs wF e.u e.l := (h.ent e he).call (h.below.mono hB0)
set_option maxHeartbeats 3200000 in
theorem find7 (h : Tr B w0 T cnt es nd ro c wF) (hB0 : w0.heap.size ≤ B) {ls : List (List Sg)} (hs : Srt ls es) (hes : es.length ≤ 1000) (pv : Value) (path : List ByteArray) (hp : Ss wF pv path) (hsz : ∀ s ∈ path, s.size ≤ 100000000) (hpl : path.length ≤ 1000) :
    Calls Tryz.prog 31 #[.pointer (some ⟨T, 0, none⟩), pv] wF fun e w' => ∃ v, e = .returned (.tuple #[.int .i64 (fnN (mat es path)), v, .bool (fnB (mat es path))]) ∧ Ps w' v (fnL (mat es path) path) ∧ Below wF.heap.size wF w' := by
  have hml : (mat es path).length ≤ 1000 := Nat.le_trans (List.length_filter_le _ _) hes
  have XW := Lib.hid (walk24 h path (fun s hs' => by have := hsz s hs'; unfold maxLen; omega) [] T h.root pv (.slice none 0 0) [] wF hp (nilE _ _ _ (Below.refl _ _) (Nat.le_refl _)) (by rw [hs.wlk]; simp; omega))
  rw [hs.wlk, List.nil_append] at XW
  have GS : Hid (∀ e ∈ mat es path, Gs wF e.u e.l ∧ mtB e.l path = true) := fun e he => by
    rw [mat, List.mem_filter] at he
    exact ⟨h.gs hB0 he.1, he.2⟩
  have HP := Lib.hid hp
  have HZ := Lib.hid hsz
  obtain ⟨Ap, np, cp, rfl⟩ := hp.shape
  clear h hs hp hsz
  generalize mat es path = xs at *
  have XW : Hid (Calls Tryz.prog 46 #[.pointer (some ⟨T, 1, none⟩), .slice Ap np cp, .slice none 0 0] wF (WalkPost wF.heap.size wF xs)) := XW.out
  cases xs with
  | nil =>
    go_enter Tryz.func31, Tryz.ntmps31
    go_wp2_with (first | (go_at_call 46; refine XW.out.mono ?_; rintro e w1 ⟨v1, rfl, h1⟩; have H1 := Lib.hid h1; obtain ⟨A1, c1, hv1⟩ : ∃ A c, v1 = .slice A 0 c := (by obtain ⟨A, c, e, _⟩ := h1.es; exact ⟨A, c, e⟩); subst hv1; clear h1))
    go_ret3
    exact ⟨_, rfl, ⟨none, 0, rfl, by simp [fnL], fun _ => rfl, fun i hi => by simp [fnL] at hi⟩, H1.out.2.1⟩
  | cons e0 xs =>
    have G0 := Lib.hid (GS.out e0 (by simp))
    obtain ⟨Au, nu, cu, hu⟩ := G0.out.1.shape
    have hln : ((xs.length : Int) + 1 == 0) = false := by simp; omega
    have hl0 : (0 : Int) < (xs.length : Int) + 1 := by omega
    go_enter Tryz.func31, Tryz.ntmps31
    go_wp2_with (first
      | (go_at_call 46; refine XW.out.mono ?_; rintro e w1 ⟨v1, rfl, h1⟩; have H1 := Lib.hid h1; obtain ⟨A1, c1, hv1, hcc⟩ := h1.es; rw [List.length_cons] at hv1; obtain ⟨g, hA1, x0, x1⟩ := hcc 0 (by simp); subst hv1; subst hA1; have x0 : w1.cell? ⟨g, 0, none⟩ = some (.int .i64 (e0.n : Nat)) := x0; have x1 : w1.cell? ⟨g, 1, none⟩ = some (.slice Au nu cu) := (by rw [← hu]; exact x1); have X0 := Lib.hid x0; clear h1 hcc)
      | (go_at_call 47; refine (match8 _ _ e0.l path w1 (by rw [← hu]; exact G0.out.1.call H1.out.2.1) (HP.out.call H1.out.2.1) HZ.out hpl).mono ?_; rintro e w2 ⟨v2, rfl, hps, hb2⟩; have PS := Lib.hid hps; have B2 := Lib.hid hb2; have x3 : w2.cell? ⟨g, 0, none⟩ = some (.int .i64 (e0.n : Nat)) := (by rw [hb2.cell (World.block_lt_of_cell? _ _ X0.out)]; exact X0.out); clear hps hb2 x0))
    go_ret3
    refine ⟨_, by rw [G0.out.2]; rfl, PS.out, H1.out.2.1.trans (B2.out.mono H1.out.2.2)⟩
end
end Go.Proofs.YtnnmbpghkflepaaGreatDoor
