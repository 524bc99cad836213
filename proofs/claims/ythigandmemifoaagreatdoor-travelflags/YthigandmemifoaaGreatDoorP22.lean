/-
  Put together: Fnd, Tok, Txt.
-/
import Derived.Test.YthigandmemifoaaGreatDoorP21
import Derived.Deep.OwnRows
import Derived.Test.YthigandmemifoaaGreatDoorP05
namespace Go.Proofs.YthigandmemifoaaGreatDoor
open Go.RowKit Go.PlainAid
set_option maxRecDepth 100000

instance : Inhabited En := ⟨⟨0, .slice none 0 0, []⟩⟩
theorem enC_at (l : List En) (i : Nat) (h : i < l.length) : (l.flatMap enC)[i * 2]? = some (.int .i64 (l.getD i default).n) ∧ (l.flatMap enC)[i * 2 + 1]? = some (l.getD i default).u := by
  induction l generalizing i with
  | nil => simp at h
  | cons p l ih =>
    cases i with
    | zero => simp [enC]
    | succ i =>
      have := ih i (by simpa using h)
      have e : (p :: l).flatMap enC = enC p ++ l.flatMap enC := rfl
      rw [e]
      constructor
      · rw [List.getElem?_append_right (by simp [enC]; omega)]
        have e2 : (i + 1) * 2 - (enC p).length = i * 2 := by simp [enC]; omega
        rw [e2]; simpa using this.1
      · rw [List.getElem?_append_right (by simp [enC]; omega)]
        have e2 : (i + 1) * 2 + 1 - (enC p).length = i * 2 + 1 := by simp [enC]; omega
        rw [e2]; simpa using this.2
/-- the slice holds these entries -/
def Es (w : World) (v : Value) (xs : List En) : Prop :=
  ∃ A cap, v = .slice A xs.length cap ∧ ∀ i, i < xs.length → ∃ g, A = some ⟨g, 0, none⟩ ∧ w.cell? ⟨g, i * 2, none⟩ = some (.int .i64 (xs.getD i default).n) ∧ w.cell? ⟨g, i * 2 + 1, none⟩ = some (xs.getD i default).u
theorem OwnE.es {F : Nat} {wF : World} {v : Value} {xs : List En} {w : World} (h : OwnE F wF v xs w) : Es w v xs := by
  have hc := @World.ownsRow.cells _ _ _ _ _ _ _ h.1
  obtain ⟨hl, ⟨rfl, h1⟩ | ⟨g, cap, cur, rfl, _, _, h4, _⟩⟩ := h.1
  · obtain rfl : xs = [] := List.eq_nil_of_length_eq_zero h1
    exact ⟨none, 0, rfl, fun i hi => by simp at hi⟩
  · refine ⟨some ⟨g, 0, none⟩, cap, rfl, fun i hi => ⟨g, rfl, ?_, ?_⟩⟩
    · have := hc rfl (i * 2) _ (enC_at xs i hi).1
      rw [add_lit', Nat.zero_add] at this
      exact this
    · have := hc rfl (i * 2 + 1) _ (enC_at xs i hi).2
      rw [add_lit', Nat.zero_add] at this
      exact this

/-- in the order of rank -/
def Srt (ls : List (List Sg)) (es : List En) : Prop :=
  (∀ e ∈ es, e.n < ls.length ∧ e.l = ls.getD e.n default ∧ rgB e.l = true) ∧ (∀ i, i < ls.length → rgB (ls.getD i default) = true → ∃ e ∈ es, e.n = i) ∧ es.Pairwise (fun a b => cW ls a.n b.n < 0)
/-- those that have the path -/
def mat (es : List En) (path : List ByteArray) : List En := es.filter (fun e => mtB e.l path)
theorem cW_le {ls : List (List Sg)} {i k : Nat} (h : cW ls i k < 0) : cP (ls.getD i default) (ls.getD k default) ≤ 0 := by
  unfold cW at h
  split at h
  · omega
  · rename_i h1
    simp at h1
    rw [List.getD_eq_getElem?_getD, List.getD_eq_getElem?_getD, h1]
    omega
theorem Srt.wlk {ls : List (List Sg)} {es : List En} (h : Srt ls es) (path : List ByteArray) : wlk En.l es [] path = mat es path := by
  have hp : es.Pairwise (fun a b => cW ls a.n b.n < 0 ∧ a.l = ls.getD a.n default ∧ b.l = ls.getD b.n default) :=
    h.2.2.imp_of_mem fun ha hb hc => ⟨hc, (h.1 _ ha).2.1, (h.1 _ hb).2.1⟩
  refine wlk_is En.l hp (fun a b h1 h2 => ?_) (fun a b h1 => ?_) (fun e he => (h.1 e he).2.2) path
  · have := (tcW ls).anti a.n b.n
    omega
  · rw [h1.2.1, h1.2.2]
    exact cW_le h1.1
theorem idx_lt {ls : List (List Sg)} {k : Nat} : (idxR ls k).Pairwise (· < ·) := List.Pairwise.sublist List.filter_sublist List.pairwise_lt_range
theorem idx_mem {ls : List (List Sg)} {k i : Nat} : i ∈ idxR ls k ↔ i < k ∧ rgB (ls.getD i default) = true := by
  rw [idxR, List.mem_filter, List.mem_range]
theorem nat_mem (l : List Nat) (k : Nat) (h : k < l.length) : l.getD k 0 ∈ l := by simp [List.getD, h]
theorem getR_at (ls : List (List Sg)) (N : List Nat) (p : Nat) (h : p < N.length) : (getR ls N).getD p default = ls.getD (N.getD p 0) default := by
  simp [getR, List.getD, h]
theorem srt_of {ls : List (List Sg)} {es : List En} {ps : List Nat} (hp : Places (getR ls (idxR ls ls.length)) ps) (he : es.map (fun e => (e.n, e.l)) = ps.map (fun p => ((idxR ls ls.length).getD p 0, (getR ls (idxR ls ls.length)).getD p default))) : Srt ls es := by
  have hl : (getR ls (idxR ls ls.length)).length = (idxR ls ls.length).length := by simp [getR]
  have hm : ∀ p, p ∈ ps ↔ p < (idxR ls ls.length).length := by
    intro p
    rw [hp.1.mem_iff, List.mem_range, hl]
  have hlt := idx_lt (ls := ls) (k := ls.length)
  have hme := fun i => idx_mem (ls := ls) (k := ls.length) (i := i)
  have hp2 := hp.2
  have hg := getR_at ls (idxR ls ls.length)
  generalize idxR ls ls.length = N at *
  have mem : ∀ e ∈ es, ∃ p, p < N.length ∧ e.n = N.getD p 0 ∧ e.l = ls.getD (N.getD p 0) default := by
    intro e h
    have : (e.n, e.l) ∈ es.map (fun e => (e.n, e.l)) := List.mem_map.2 ⟨e, h, rfl⟩
    rw [he, List.mem_map] at this
    obtain ⟨p, h1, h2⟩ := this
    have h3 := (hm p).1 h1
    rw [hg p h3] at h2
    exact ⟨p, h3, (Prod.mk.inj h2).1.symm, (Prod.mk.inj h2).2.symm⟩
  refine ⟨fun e h => ?_, fun i hi hr => ?_, ?_⟩
  · obtain ⟨p, h1, h2, h3⟩ := mem e h
    have h4 := (hme _).1 (nat_mem N p h1)
    rw [h2, h3]
    exact ⟨h4.1, rfl, h4.2⟩
  · have h1 := (hme i).2 ⟨hi, hr⟩
    obtain ⟨p, h2, h3⟩ := List.getElem_of_mem h1
    have h4 : (N.getD p 0, (getR ls N).getD p default) ∈ ps.map (fun p => (N.getD p 0, (getR ls N).getD p default)) := List.mem_map.2 ⟨p, (hm p).2 h2, rfl⟩
    rw [← he, List.mem_map] at h4
    obtain ⟨e, h5, h6⟩ := h4
    refine ⟨e, h5, ?_⟩
    have h7 : e.n = N.getD p 0 := (Prod.mk.inj h6).1
    rw [h7]
    simp [List.getD, h2, h3]
  · have h1 : (es.map (fun e => (e.n, e.l))).Pairwise (fun a b => cW ls a.1 b.1 < 0) := by
      rw [he, List.pairwise_map]
      refine hp2.imp_of_mem fun {a b} ha hb hc => ?_
      have ha := (hm a).1 ha
      have hb := (hm b).1 hb
      unfold cW at hc ⊢
      rw [hg a ha, hg b hb] at hc
      split at hc
      · rename_i hne
        simp only
        rw [if_pos hne]
        exact hc
      · rename_i hne
        simp only
        rw [if_neg hne]
        have hab : a < b := by
          have := cI_cases (a : Int) (b : Int)
          omega
        rw [List.pairwise_iff_getElem] at hlt
        have h9 := hlt a b ha hb hab
        have e1 : N.getD a 0 = N[a] := by simp [List.getD, ha]
        have e2 : N.getD b 0 = N[b] := by simp [List.getD, hb]
        rw [e1, e2]
        have := cI_cases (N[a] : Int) (N[b] : Int)
        omega
    rw [List.pairwise_map] at h1
    exact h1
/-- all that have the path, by their numbers -/
def AllN (ls : List (List Sg)) (path : List ByteArray) (al : List Nat) : Prop := al.Pairwise (fun i k => cW ls i k < 0) ∧ ∀ i, i ∈ al ↔ i < ls.length ∧ mtB (ls.getD i default) path = true
theorem mt_right {l : List Sg} {path : List ByteArray} (h : mtB l path = true) : rgB l = true := by
  by_cases hr : rgB l = true
  · exact hr
  · rw [mtB, mtO, if_neg hr] at h
    cases h
theorem Srt.all {ls : List (List Sg)} {es : List En} (h : Srt ls es) (path : List ByteArray) : AllN ls path ((mat es path).map En.n) := by
  constructor
  · rw [List.pairwise_map]
    exact h.2.2.sublist List.filter_sublist
  · intro i
    rw [List.mem_map]
    constructor
    · rintro ⟨e, he, rfl⟩
      rw [mat, List.mem_filter] at he
      obtain ⟨h1, h2, _⟩ := h.1 e he.1
      rw [h2] at he
      exact ⟨h1, he.2⟩
    · rintro ⟨h1, h2⟩
      obtain ⟨e, h3, h4⟩ := h.2.1 i h1 (mt_right h2)
      refine ⟨e, ?_, h4⟩
      rw [mat, List.mem_filter]
      refine ⟨h3, ?_⟩
      rw [(h.1 e h3).2.1, h4]
      exact h2
/-- what Find tells -/
def fnN (xs : List En) : Int := match xs with | [] => -1 | e :: _ => e.n
def fnL (xs : List En) (path : List ByteArray) : List Pr := match xs with | [] => [] | e :: _ => mtL e.l path
def fnB (xs : List En) : Bool := !xs.isEmpty
section
variable {wF w0 : World} {B T cnt : Nat} {es : List En} {nd : Key → Option Nat} {ro : Nat → Option (Key × Nat)} {c : Nat}
theorem Tr.gs (h : Tr B w0 T cnt es nd ro c wF) (hB0 : w0.heap.size ≤ B) {e : En} (he : e ∈ es) : Gs wF e.u e.l := (h.ent e he).call (h.below.mono hB0)
set_option maxHeartbeats 3200000 in
theorem find7 (h : Tr B w0 T cnt es nd ro c wF) (hB0 : w0.heap.size ≤ B) {ls : List (List Sg)} (hs : Srt ls es) (hes : es.length ≤ 1000) (pv : Value) (path : List ByteArray) (hp : Ss wF pv path) (hsz : ∀ s ∈ path, s.size ≤ 100000000) (hpl : path.length ≤ 1000) :
    Calls Tryz.prog 64 #[.pointer (some ⟨T, 0, none⟩), pv] wF fun e w' => ∃ v, e = .returned (.tuple #[.int .i64 (fnN (mat es path)), v, .bool (fnB (mat es path))]) ∧ Ps w' v (fnL (mat es path) path) ∧ Below wF.heap.size wF w' := by
  have hml : (mat es path).length ≤ 1000 := Nat.le_trans (List.length_filter_le _ _) hes
  have XW := Lib.hid (walk24 h path (fun s hs' => by have := hsz s hs'; unfold maxLen; omega) [] T h.root pv (.slice none 0 0) [] wF hp (nilE _ _ _ (Below.refl _ _) (Nat.le_refl _)) (by rw [hs.wlk]; simp; omega))
  rw [hs.wlk, List.nil_append] at XW
  have GS : Hid (∀ e ∈ mat es path, Gs wF e.u e.l ∧ mtB e.l path = true) := fun e he => by
    rw [mat, List.mem_filter] at he
    exact ⟨h.gs hB0 he.1, he.2⟩
  have HP := Lib.hid hp
  have HZ := Lib.hid hsz
  obtain ⟨Ap, np, cp, rfl⟩ := hp.shape
  clear h hs hp hsz
  generalize mat es path = xs at *
  have XW : Hid (Calls Tryz.prog 83 #[.pointer (some ⟨T, 1, none⟩), .slice Ap np cp, .slice none 0 0] wF (WalkPost wF.heap.size wF xs)) := XW.out
  cases xs with
  | nil =>
    go_enter Tryz.func64, Tryz.ntmps64
    go_wp2_with (first | (go_at_call 83; refine XW.out.mono ?_; rintro e w1 ⟨v1, rfl, h1⟩; have H1 := Lib.hid h1; obtain ⟨A1, c1, hv1⟩ : ∃ A c, v1 = .slice A 0 c := (by obtain ⟨A, c, e, _⟩ := h1.es; exact ⟨A, c, e⟩); subst hv1; clear h1))
    go_ret3
    exact ⟨_, rfl, ⟨none, 0, rfl, by simp [fnL], fun _ => rfl, fun i hi => by simp [fnL] at hi⟩, H1.out.2.1⟩
  | cons e0 xs =>
    have G0 := Lib.hid (GS.out e0 (by simp))
    obtain ⟨Au, nu, cu, hu⟩ := G0.out.1.shape
    have hln : ((xs.length : Int) + 1 == 0) = false := by simp; omega
    have hl0 : (0 : Int) < (xs.length : Int) + 1 := by omega
    go_enter Tryz.func64, Tryz.ntmps64
    go_wp2_with (first
      | (go_at_call 83; refine XW.out.mono ?_; rintro e w1 ⟨v1, rfl, h1⟩; have H1 := Lib.hid h1; obtain ⟨A1, c1, hv1, hcc⟩ := h1.es; rw [List.length_cons] at hv1; obtain ⟨g, hA1, x0, x1⟩ := hcc 0 (by simp); subst hv1; subst hA1; have x0 : w1.cell? ⟨g, 0, none⟩ = some (.int .i64 (e0.n : Nat)) := x0; have x1 : w1.cell? ⟨g, 1, none⟩ = some (.slice Au nu cu) := (by rw [← hu]; exact x1); have X0 := Lib.hid x0; clear h1 hcc)
      | (go_at_call 84; refine (match8 _ _ e0.l path w1 (by rw [← hu]; exact G0.out.1.call H1.out.2.1) (HP.out.call H1.out.2.1) HZ.out hpl).mono ?_; rintro e w2 ⟨v2, rfl, hps, hb2⟩; have PS := Lib.hid hps; have B2 := Lib.hid hb2; have x3 : w2.cell? ⟨g, 0, none⟩ = some (.int .i64 (e0.n : Nat)) := (by rw [hb2.cell (World.block_lt_of_cell? _ _ X0.out)]; exact X0.out); clear hps hb2 x0))
    go_ret3
    refine ⟨_, by rw [G0.out.2]; rfl, PS.out, H1.out.2.1.trans (B2.out.mono H1.out.2.2)⟩
end
end Go.Proofs.YthigandmemifoaaGreatDoor

namespace Go.Proofs.YthigandmemifoaaGreatDoor
open Go.RowKit Go.PlainAid
set_option maxRecDepth 100000
/-- at T lies the trie of these patterns -/
def TrieOk (ls : List (List Sg)) (T : Nat) (w : World) : Prop :=
  ∃ B w0 es nd ro c, Tr B w0 T (idxR ls ls.length).length es nd ro c w ∧ w0.heap.size ≤ B ∧ Srt ls es ∧ es.length ≤ 1000
theorem TrieOk.call {ls : List (List Sg)} {T : Nat} {w w' : World} (h : TrieOk ls T w) (hb : Below w.heap.size w w') : TrieOk ls T w' := by
  obtain ⟨B, w0, es, nd, ro, c, h1, h2⟩ := h
  exact ⟨B, w0, es, nd, ro, c, h1.call hb, h2⟩
theorem trieNew (v : Value) (ls : List (List Sg)) (w : World) (hg : Gss w v ls) (h12 : ls.length ≤ 1000) :
    Calls Tryz.prog 63 #[v] w fun e w' => ∃ T, e = .returned (.pointer (some ⟨T, 0, none⟩)) ∧ TrieOk ls T w' ∧ Below w.heap.size w w' := by
  refine (new6 v ls w hg h12).mono ?_
  rintro e w' ⟨T, B, w0, es, nd, ro, c, ps, he, h1, h2, h3, h4, h5⟩
  refine ⟨T, he, ⟨B, w0, es, nd, ro, c, h1, h2, srt_of h4 h5, ?_⟩, h3⟩
  have h6 := congrArg List.length h5
  have h7 := h4.len
  have h8 := idx_len ls ls.length
  simp [getR] at h6 h7
  omega
theorem AllN.uniq {ls : List (List Sg)} {path : List ByteArray} {a b : List Nat} (h1 : AllN ls path a) (h2 : AllN ls path b) : a = b := by
  refine same_sorted (R := fun i k => cW ls i k < 0) (fun i k h1 h2 => ?_) h1.1 h2.1 fun x => ?_
  · have := (tcW ls).anti i k
    omega
  · rw [h1.2, h2.2]
theorem TrieOk.al {ls : List (List Sg)} {T : Nat} {w : World} (h : TrieOk ls T w) (path : List ByteArray) : ∃ al, AllN ls path al ∧ al.length ≤ 1000 := by
  obtain ⟨B, w0, es, nd, ro, c, h1, h2, h3, h4⟩ := h
  exact ⟨_, h3.all path, by rw [List.length_map]; exact Nat.le_trans (List.length_filter_le _ _) h4⟩
theorem al_lt {ls : List (List Sg)} {path : List ByteArray} {al : List Nat} (h : AllN ls path al) {k : Nat} (hk : k < al.length) : al.getD k 0 < ls.length := ((h.2 _).1 (nat_mem al k hk)).1
theorem al_fresh {ls : List (List Sg)} {path : List ByteArray} {al : List Nat} (h : AllN ls path al) {k : Nat} (hk : k < al.length) : al.getD k 0 ∉ al.take k := by
  intro hm
  obtain ⟨j, hj, e⟩ := List.getElem_of_mem hm
  rw [List.length_take] at hj
  have h1 := h.1
  rw [List.pairwise_iff_getElem] at h1
  have h2 := h1 j k (by omega) hk (by omega)
  have e1 : al[k] = al.getD k 0 := by simp [List.getD, hk]
  have e2 : al[j]'(by omega) = al.getD k 0 := by rw [← e]; simp
  rw [e1, e2, (tcW ls).refl] at h2
  omega
theorem al_next {ls : List (List Sg)} {path : List ByteArray} {al : List Nat} (h : AllN ls path al) {k : Nat} (hk : k + 1 < al.length) : ¬ 0 < cP (ls.getD (al.getD k 0) default) (ls.getD (al.getD (k + 1) 0) default) := by
  have h1 := h.1
  rw [List.pairwise_iff_getElem] at h1
  have h2 := h1 k (k + 1) (by omega) hk (by omega)
  have e1 : al[k] = al.getD k 0 := by simp [List.getD, show k < al.length by omega]
  have e2 : al[k + 1] = al.getD (k + 1) 0 := by simp [List.getD, hk]
  rw [e1, e2] at h2
  have := cW_le h2
  omega
/-- the first one's number, and what it tells -/
def aN (al : List Nat) : Int := match al with | [] => -1 | i :: _ => i
def aL (ls : List (List Sg)) (path : List ByteArray) (al : List Nat) : List Pr := match al with | [] => [] | i :: _ => mtL (ls.getD i default) path
theorem trieFind {ls : List (List Sg)} {T : Nat} {w : World} (h : TrieOk ls T w) (pv : Value) (path : List ByteArray) (hp : Ss w pv path) (hsz : ∀ s ∈ path, s.size ≤ 100000000) (hpl : path.length ≤ 1000) {al : List Nat} (ha : AllN ls path al) :
    Calls Tryz.prog 64 #[.pointer (some ⟨T, 0, none⟩), pv] w fun e w' => ∃ v, e = .returned (.tuple #[.int .i64 (aN al), v, .bool (!al.isEmpty)]) ∧ Ps w' v (aL ls path al) ∧ Below w.heap.size w w' := by
  obtain ⟨B, w0, es, nd, ro, c, h1, h2, h3, h4⟩ := h
  refine (find7 h1 h2 h3 h4 pv path hp hsz hpl).mono ?_
  rintro e w' ⟨v, he, hps, hb⟩
  have hal := (h3.all path).uniq ha
  have hl : ∀ x ∈ mat es path, x.l = ls.getD x.n default := fun x hx => by
    rw [mat, List.mem_filter] at hx
    exact (h3.1 x hx.1).2.1
  rcases hm : mat es path with _ | ⟨x, xs⟩
  · rw [hm] at hal he hps
    rw [← hal]
    exact ⟨v, he, hps, hb⟩
  · have hx := hl x (by rw [hm]; simp)
    rw [hm] at hal he hps
    rw [← hal]
    refine ⟨v, he, ?_, hb⟩
    have e1 : aL ls path (List.map En.n (x :: xs)) = fnL (x :: xs) path := by
      show mtL (ls.getD x.n default) path = mtL x.l path
      rw [hx]
    rw [e1]
    exact hps
end Go.Proofs.YthigandmemifoaaGreatDoor

namespace Go.Proofs.YthigandmemifoaaGreatDoor
open Go.PlainAid

theorem flat_jn : ∀ ps : List (List Int), ps ≠ [] → ps.flatMap (fun p => 47 :: p) = 47 :: jnL ps := by
  intro ps
  induction ps with
  | nil => intro h; exact absurd rfl h
  | cons x r ih =>
    intro _
    cases r with
    | nil => simp [jnL]
    | cons y r =>
      rw [List.flatMap_cons, ih (by simp), jnL]
      rfl
theorem splL_jn : ∀ ps : List (List Int), (∀ p ∈ ps, ∀ x ∈ p, x ≠ 47) → ps ≠ [] → splL 47 (jnL ps) = ps := by
  intro ps
  induction ps with
  | nil => intro _ h; exact absurd rfl h
  | cons x r ih =>
    intro h _
    have hx := h x (by simp)
    cases r with
    | nil => rw [jnL, splL_none 47 x hx]
    | cons y r =>
      rw [jnL, splL_mark 47 x _ hx, ih (fun p hp => h p (by simp at hp ⊢; exact Or.inr hp)) (by simp)]
theorem jn_splL (l : List Int) : jnL (splL 47 l) = l := by
  induction hn : l.length using Nat.strongRecOn generalizing l with
  | ind n ih =>
    rcases first_mark 47 l with hm | ⟨p, r, rfl, hm⟩
    · rw [splL_none 47 l hm]; rfl
    · rw [splL_mark 47 p r hm]
      have hr : jnL (splL 47 r) = r := ih r.length (by simp at hn; omega) r rfl
      have hne := splL_ne 47 r
      match hs : splL 47 r with
      | [] => rw [hs] at hne; simp at hne
      | y :: t =>
        rw [hs] at hr
        rw [jnL, hr]

theorem lc_47 {c : Int} (h : lc c = true) : c ≠ 47 ∧ c ≠ 42 ∧ c ≠ 58 ∧ c ≠ 63 := by
  have := of_decide_eq_true h
  omega
theorem tx_all {s : ByteArray} (h : txB s = true) : (1 ≤ s.size ∧ s.size ≤ 16) ∧ ∀ x ∈ bs s, lc x = true := by
  rw [txB, Bool.and_eq_true, List.all_eq_true] at h
  exact ⟨of_decide_eq_true h.1, h.2⟩
/-- a right segment's parts -/
theorem ok_parts {l : List Sg} (h : rgB l = true) {g : Sg} (hg : g ∈ l) : txB g.2 = true ∧ (g.1 = 0 ∨ g.1 = 1 ∨ g.1 = 2 ∨ g.1 = 3) := by
  obtain ⟨k, hk, rfl⟩ := List.getElem_of_mem hg
  have := rg_ok h k hk
  have e : l.getD k default = l[k] := by simp [List.getD, hk]
  rw [okB, e, Bool.and_eq_true, Bool.and_eq_true] at this
  refine ⟨this.2.1, ?_⟩
  have h1 := this.1
  unfold stB at h1
  split at h1
  · omega
  · split at h1
    · omega
    · cases h1
theorem rd_sg (g : Sg) (h1 : txB g.2 = true) (h2 : g.1 = 0 ∨ g.1 = 1 ∨ g.1 = 2 ∨ g.1 = 3) : rdL (sgL g) = g := by
  obtain ⟨g1, g2⟩ := g
  simp only at h1 h2
  obtain ⟨hs, ha⟩ := tx_all h1
  have hst := st_bs g2
  have hl := bs_len g2
  rcases h2 with rfl | rfl | rfl | rfl
  · have e : sgL (0, g2) = bs g2 := rfl
    rw [e]
    rcases hb : bs g2 with _ | ⟨c, r⟩
    · rw [hb] at hl; simp at hl; omega
    · have hc := lc_47 (ha c (by rw [hb]; simp))
      rw [rdL, if_neg hc.2.1, if_neg hc.2.2.1, ← hb, hst]
  · have e : sgL (1, g2) = 58 :: bs g2 := rfl
    rw [e, rdL, if_neg (by decide), if_pos rfl, if_neg ?_, hst]
    intro h
    exact (lc_47 (ha 63 (List.mem_of_getLast? h))).2.2.2 rfl
  · have e : sgL (2, g2) = 58 :: (bs g2 ++ [63]) := rfl
    rw [e, rdL, if_neg (by decide), if_pos rfl, if_pos (by simp), List.dropLast_concat, hst]
  · have e : sgL (3, g2) = 42 :: bs g2 := rfl
    rw [e, rdL, if_pos rfl, hst]
theorem sg_no47 (g : Sg) (h1 : txB g.2 = true) : ∀ x ∈ sgL g, x ≠ 47 := by
  obtain ⟨hs, ha⟩ := tx_all h1
  intro x hx
  unfold sgL at hx
  split at hx
  · simp only [List.mem_cons] at hx
    rcases hx with rfl | hx
    · decide
    · exact (lc_47 (ha x hx)).1
  · split at hx
    · simp only [List.mem_cons, List.mem_append, List.not_mem_nil, or_false] at hx
      rcases hx with rfl | hx | rfl
      · decide
      · exact (lc_47 (ha x hx)).1
      · decide
    · split at hx
      · simp only [List.mem_cons] at hx
        rcases hx with rfl | hx
        · decide
        · exact (lc_47 (ha x hx)).1
      · exact (lc_47 (ha x hx)).1
theorem sg_ne (g : Sg) (h1 : txB g.2 = true) : 1 ≤ (sgL g).length := by
  obtain ⟨hs, ha⟩ := tx_all h1
  have hl := bs_len g.2
  unfold sgL
  split
  · simp
  · split
    · simp
    · split
      · simp
      · omega
theorem sg_inR (g : Sg) : InR (sgL g) := by
  have h := bs_inR g.2
  unfold sgL
  intro x hx
  split at hx
  · simp only [List.mem_cons] at hx
    rcases hx with rfl | hx
    · omega
    · exact h x hx
  · split at hx
    · simp only [List.mem_cons, List.mem_append, List.not_mem_nil, or_false] at hx
      rcases hx with rfl | hx | rfl
      · omega
      · exact h x hx
      · omega
    · split at hx
      · simp only [List.mem_cons] at hx
        rcases hx with rfl | hx
        · omega
        · exact h x hx
      · exact h x hx
theorem pr_inR (l : List Sg) : InR (prL l) := by
  intro x hx
  simp only [prL, List.mem_flatMap, List.mem_cons] at hx
  obtain ⟨g, _, rfl | hx⟩ := hx
  · omega
  · exact sg_inR g x hx
theorem prL_jn (l : List Sg) (h : l ≠ []) : prL l = 47 :: jnL (l.map sgL) := by
  rw [← flat_jn _ (by simpa using h), prL, List.flatMap_map]

/-- what is printed is compiled -/
theorem cm_pr {l : List Sg} (h : rgB l = true) : cmB (prT l) = true ∧ cmL (prT l) = l := by
  by_cases h0 : l = []
  · subst h0
    have e : prT [] = st [47] := by decide +kernel
    rw [e, cmB, cmL, if_pos rfl, if_pos rfl]
    exact ⟨rfl, rfl⟩
  · have e : prT l = st (prL l) := by rw [prT, if_pos h, if_neg h0]
    have hb : bs (prT l) = prL l := by rw [e, bs_st (pr_inR l)]
    have hj := prL_jn l h0
    have hl := rg_len h
    have hs : splL 47 (jnL (l.map sgL)) = l.map sgL := by
      apply splL_jn
      · intro p hp
        rw [List.mem_map] at hp
        obtain ⟨g, hg, rfl⟩ := hp
        exact sg_no47 g (ok_parts h hg).1
      · simpa using h0
    have hI : cmI (prT l) = l := by
      rw [cmI, hb, hj, List.drop_one, List.tail_cons, splNL_all 47 8 _ (by rw [hs, List.length_map]; omega), hs, List.map_map]
      conv => rhs; rw [← List.map_id l]
      apply List.map_congr_left
      intro g hg
      obtain ⟨h1, h2⟩ := ok_parts h hg
      exact rd_sg g h1 h2
    have hne : ¬ prT l = st [47] := by
      intro hc
      have h1 := congrArg bs hc
      rw [hb, hj, show bs (st [47]) = [47] by decide +kernel] at h1
      match l, h0 with
      | g :: r, _ =>
        have hg := sg_ne g (ok_parts h (by simp)).1
        cases r with
        | nil => simp [jnL] at h1; rw [h1] at hg; simp at hg
        | cons y r => simp [jnL] at h1
    have hd : decide ((bs (prT l)).head? = some 47) = true := by rw [hb, hj]; rfl
    rw [cmB, cmL, if_neg hne, if_neg hne, hI, h, hd]
    exact ⟨rfl, rfl⟩
theorem sg_rd (p : List Int) (h : InR p) : sgL (rdL p) = p := by
  cases p with
  | nil => decide +kernel
  | cons c r =>
    have hr : InR r := fun x hx => h x (by simp [hx])
    rw [rdL]
    by_cases h1 : c = 42
    · subst h1
      rw [if_pos rfl]
      show 42 :: bs (st r) = _
      rw [bs_st hr]
    · rw [if_neg h1]
      by_cases h2 : c = 58
      · subst h2
        rw [if_pos rfl]
        by_cases h3 : r.getLast? = some 63
        · rw [if_pos h3]
          show 58 :: (bs (st r.dropLast) ++ [63]) = _
          rw [bs_st (fun x hx => hr x ((List.dropLast_sublist _).mem hx))]
          rw [List.getLast?_eq_some_iff] at h3
          obtain ⟨ys, rfl⟩ := h3
          simp
        · rw [if_neg h3]
          show 58 :: bs (st r) = _
          rw [bs_st hr]
      · rw [if_neg h2]
        show bs (st (c :: r)) = _
        rw [bs_st h]
theorem splL_inR (m : Int) (l : List Int) (h : InR l) : ∀ p ∈ splL m l, InR p := by
  intro p hp
  rw [← splNL_all m (splL m l).length l (by omega)] at hp
  revert p
  generalize (splL m l).length = n
  intro p hp
  induction n generalizing l with
  | zero => simp [splNL] at hp; rw [hp]; exact h
  | succ n ih =>
    rcases first_mark m l with hm | ⟨q, r, rfl, hm⟩
    · rw [splNL_none m _ l hm] at hp; simp at hp; rw [hp]; exact h
    · rw [splNL_mark m n q r hm, List.mem_cons] at hp
      rcases hp with rfl | hp
      · exact fun x hx => h x (by simp [hx])
      · exact ih r (fun x hx => h x (by simp [hx])) hp
/-- what is compiled is printed -/
theorem pr_cm {s : ByteArray} (h : cmB s = true) : prT (cmL s) = s ∧ rgB (cmL s) = true := by
  rw [cmB] at h
  rw [cmL]
  by_cases h0 : s = st [47]
  · rw [if_pos h0, h0]
    exact ⟨by decide +kernel, by decide +kernel⟩
  · rw [if_neg h0] at h ⊢
    rw [if_pos h]
    rw [Bool.and_eq_true] at h
    obtain ⟨h1, h2⟩ := h
    refine ⟨?_, h2⟩
    have h1 := of_decide_eq_true h1
    have hR := bs_inR s
    rcases hb : bs s with _ | ⟨c, r⟩
    · rw [hb] at h1; cases h1
    · rw [hb] at h1 hR
      simp only [List.head?_cons, Option.some.injEq] at h1
      subst h1
      have hr : InR r := fun x hx => hR x (by simp [hx])
      have hl := rg_len h2
      have hI : cmI s = (splNL 47 8 r).map rdL := by rw [cmI, hb]; rfl
      have hsp : splNL 47 8 r = splL 47 r := by
        by_cases hx : (splL 47 r).length ≤ 9
        · exact splNL_all 47 8 r hx
        · have := splNL_more 47 8 r (by omega)
          rw [hI, List.length_map] at hl
          omega
      rw [hsp] at hI
      have hne : cmI s ≠ [] := by
        intro hc
        rw [hI, List.map_eq_nil_iff] at hc
        have := splL_ne 47 r
        rw [hc] at this
        simp at this
      rw [prT, if_pos h2, if_neg hne, prL_jn _ hne, hI, List.map_map]
      have : (splL 47 r).map (sgL ∘ rdL) = splL 47 r := by
        conv => rhs; rw [← List.map_id (splL 47 r)]
        apply List.map_congr_left
        intro p hp
        exact sg_rd p (splL_inR 47 r hr p hp)
      rw [this, jn_splL, ← hb, st_bs]
theorem cm_not {s : ByteArray} (h : cmB s = false) : cmL s = [] := by
  rw [cmB] at h
  rw [cmL]
  by_cases h0 : s = st [47]
  · rw [if_pos h0]
  · rw [if_neg h0] at h ⊢
    rw [h]
    rfl
theorem pr_wrong {l : List Sg} (h : rgB l = false) : prT l = ⟨#[]⟩ := by
  rw [prT, h]; rfl
theorem cm_empty : cmB ⟨#[]⟩ = false := by decide +kernel
theorem pr_right {l : List Sg} (h : rgB l = true) : prT l ≠ ⟨#[]⟩ := by
  intro hc
  have := (cm_pr h).1
  rw [hc, cm_empty] at this
  cases this
theorem pr_inj {l m : List Sg} (hl : rgB l = true) (hm : rgB m = true) : prT l = prT m ↔ l = m := by
  constructor
  · intro h
    rw [← (cm_pr hl).2, h, (cm_pr hm).2]
  · intro h; rw [h]
/-- any text -/
theorem text_law (s : ByteArray) : cmB s = (decide (prT (cmL s) = s) && decide (s ≠ ⟨#[]⟩)) := by
  by_cases h : cmB s = true
  · rw [h, decide_eq_true (pr_cm h).1, Bool.true_and, eq_comm, decide_eq_true_eq]
    rintro rfl
    rw [cm_empty] at h
    cases h
  · have h : cmB s = false := by simpa using h
    rw [h, cm_not h]
    have hne : ¬ prT [] = s := by
      rintro rfl
      rw [(cm_pr (l := []) (by decide +kernel)).1] at h
      cases h
    rw [decide_eq_false hne]
    rfl
end Go.Proofs.YthigandmemifoaaGreatDoor
