/-
  Put together: UPrn, TvH, UBack, TvI.
-/
import Derived.Test.YthigandmemifoaaGreatDoorP14
import Derived.Test.YthigandmemifoaaGreatDoorP36
import Derived.Test.YthigandmemifoaaGreatDoorP35
namespace Go.Proofs.YthigandmemifoaaGreatDoor
open Go.PlainAid

def segL (s : ByteArray) : List Int := 47 :: encL (bs s)
def pathL (p : List ByteArray) : List Int := p.flatMap segL
def pqL (mk : Int) (x : Pr) : List Int := mk :: (encL (bs x.1) ++ 61 :: encL (bs x.2))
def qryL : List Pr → List Int
  | [] => []
  | x :: r => pqL 63 x ++ r.flatMap (pqL 38)
def headL (p : List ByteArray) : List Int := if p = [] then [47] else pathL p
def urlL (p : List ByteArray) (q : List Pr) : List Int := headL p ++ qryL q
def prnS (p : List ByteArray) (q : List Pr) : ByteArray := if rightB p q then st (urlL p q) else ⟨#[]⟩
def mkI (k : Nat) : Int := if k = 0 then 63 else 38

theorem bs_enc (s : ByteArray) : bs (encS s) = encL (bs s) := by rw [encS, bs_st (encL_inR (bs_inR s))]
theorem encS_size (s : ByteArray) : (encS s).size ≤ 3 * s.size := by
  rw [← bs_len, bs_enc]
  have := encL_len (bs s)
  rw [bs_len] at this
  exact this
theorem path_next (p : List ByteArray) (k : Nat) (h : k < p.length) : pathL (p.take (k + 1)) = pathL (p.take k) ++ [47] ++ bs (encS (p.getD k default)) := by
  have e : p.take (k + 1) = p.take k ++ [p.getD k default] := by
    rw [List.take_add_one]
    simp only [List.getD, List.getElem?_eq_getElem h, Option.toList_some, Option.getD_some]
  rw [e, pathL, List.flatMap_append, bs_enc]
  simp [segL, pathL]
theorem qry_next (q : List Pr) (k : Nat) (h : k < q.length) : qryL (q.take (k + 1)) = qryL (q.take k) ++ [mkI k] ++ bs (encS (q.getD k default).1) ++ [61] ++ bs (encS (q.getD k default).2) := by
  have e : q.take (k + 1) = q.take k ++ [q.getD k default] := by
    rw [List.take_add_one]
    simp only [List.getD, List.getElem?_eq_getElem h, Option.toList_some, Option.getD_some]
  rw [e, bs_enc, bs_enc]
  match q, k, h with
  | x :: r, 0, _ => simp [qryL, pqL, mkI]
  | x :: r, k + 1, _ => simp [qryL, pqL, mkI]
theorem upath_len (l : List ByteArray) (h : ∀ s ∈ l, s.size ≤ 64) : (pathL l).length ≤ 193 * l.length := by
  induction l with
  | nil => simp [pathL]
  | cons s l ih =>
    have h1 := ih (fun x hx => h x (by simp [hx]))
    have h2 := h s (by simp)
    have h3 := encL_len (bs s)
    rw [bs_len] at h3
    have e : pathL (s :: l) = segL s ++ pathL l := rfl
    rw [e, List.length_append, segL, List.length_cons, List.length_cons]
    omega
theorem prL_len (m : Int) (x : Pr) (h : x.1.size ≤ 64 ∧ x.2.size ≤ 64) : (pqL m x).length ≤ 386 := by
  have h3 := encL_len (bs x.1)
  have h4 := encL_len (bs x.2)
  rw [bs_len] at h3 h4
  rw [pqL, List.length_cons, List.length_append, List.length_cons]
  omega
theorem qry_len (l : List Pr) (h : ∀ x ∈ l, x.1.size ≤ 64 ∧ x.2.size ≤ 64) : (qryL l).length ≤ 386 * l.length := by
  have key : ∀ r : List Pr, (∀ x ∈ r, x.1.size ≤ 64 ∧ x.2.size ≤ 64) → (r.flatMap (pqL 38)).length ≤ 386 * r.length := by
    intro r
    induction r with
    | nil => simp
    | cons x r ih =>
      intro h
      have h1 := ih (fun y hy => h y (by simp [hy]))
      have h2 := prL_len 38 x (h x (by simp))
      rw [List.flatMap_cons, List.length_append, List.length_cons]
      omega
  match l, h with
  | [], _ => simp [qryL]
  | x :: r, h =>
    have h1 := key r (fun y hy => h y (by simp [hy]))
    have h2 := prL_len 63 x (h x (by simp))
    rw [qryL, List.length_append, List.length_cons]
    omega
/-- what is right is small -/
theorem right_small {p : List ByteArray} {q : List Pr} (h : rightB p q = true) : p.length ≤ 8 ∧ q.length ≤ 8 ∧ (∀ s ∈ p, 1 ≤ s.size ∧ s.size ≤ 64) ∧ (∀ x ∈ q, (1 ≤ x.1.size ∧ x.1.size ≤ 64) ∧ x.2.size ≤ 64) := by
  rw [rightB, Bool.and_eq_true, Bool.and_eq_true, decide_eq_true_iff, List.all_eq_true, List.all_eq_true] at h
  refine ⟨h.1.1, h.1.2, fun s hs => of_decide_eq_true (h.2.1 s hs), fun x hx => ?_⟩
  have := h.2.2 x hx
  rw [pairB, Bool.and_eq_true] at this
  exact ⟨of_decide_eq_true this.1, of_decide_eq_true this.2⟩
end Go.Proofs.YthigandmemifoaaGreatDoor

namespace Go.Proofs.YthigandmemifoaaGreatDoor
open Go.RowKit Go.PlainAid
set_option maxRecDepth 100000

theorem bd_right {l : List Sg} {ps : List Pr} {x : List ByteArray} (h : bdO l ps = some x) : rightB x [] = true := by
  unfold bdO at h
  split at h
  · split at h
    · cases h
    · split at h
      · rename_i hc
        cases h
        rw [Bool.and_eq_true] at hc
        exact hc.1
      · cases h
  · cases h
theorem rv_right (l : List Rc) (s : ByteArray) (q : List Pr) : rightB (rvL l s q) [] = true := by
  rw [rvL]
  split
  · decide
  · rw [bdL]
    cases hb : bdO (fuL l (nmI l s)) q with
    | none => decide
    | some x => exact bd_right hb
theorem rv_small (l : List Rc) (s : ByteArray) (q : List Pr) : (rvL l s q).length ≤ 8 ∧ ∀ t ∈ rvL l s q, 1 ≤ t.size ∧ t.size ≤ 64 := by
  have := right_small (rv_right l s q)
  exact ⟨this.1, this.2.2.1⟩

set_option maxHeartbeats 6400000 in
theorem follow22 (v : Value) (l : List Rc) (s : ByteArray) (w : World) (h : Rs w v l) (hf : Fit l) :
    Calls Tryz.prog 22 #[v, .string s] w (FindPost (flB l s) (flP l s) w) := by
  have B0 := Lib.hid ((Below.refl w.heap.size w).alloc (Nat.le_refl _) (.cells #[.slice none 0 0, .slice none 0 0, .int .i64 0, .slice none 0 0, .slice none 0 0, .int .i64 0] 36 (0, 0)))
  have X4 := Lib.hid (blk_new w (.cells #[.slice none 0 0, .slice none 0 0, .int .i64 0, .slice none 0 0, .slice none 0 0, .int .i64 0] 36 (0, 0)))
  have HS := Lib.hid (h.call B0.out)
  have HV := Lib.hid (reverse16 v l s (.slice none 0 0) [] _ HS.out hf (ps_nil _) (by simp) (fun p hp => by simp at hp))
  have HRS := Lib.hid (rv_small l s [])
  have HFI := Lib.hid (fun (pv : Value) (w' : World) hb hp => find20 v l pv (.slice none 0 0) (rvL l s []) [] w' (HS.out.call (w' := w') hb) hf hp (ps_nil _) (fun t ht => by have := (HRS.out.2 t ht).2; omega) (by have := HRS.out.1; omega))
  have e1 : rvB l s [] = true → flB l s = fdB l (rvL l s []) ∧ flP l s = fdP l (rvL l s []) [] := fun hb => ⟨by rw [flB, hb]; rfl, by rw [flP, if_pos hb]⟩
  have e0 : rvB l s [] = false → flB l s = false ∧ flP l s = zPl := fun hb => ⟨by rw [flB, hb]; rfl, by rw [flP, hb]; rfl⟩
  have E1 := Lib.hid e1
  have E0 := Lib.hid e0
  obtain ⟨A, cap, rfl⟩ := h.len
  clear h hf e1 e0
  generalize flB l s = FB at *
  generalize flP l s = FP at *
  generalize fdP l (rvL l s []) [] = GP at *
  generalize fdB l (rvL l s []) = GB at *
  generalize rvL l s [] = RL at *
  generalize rvB l s [] = RB at *
  go_enter Tryz.func22, Tryz.ntmps22
  go_upto_region 1 with fail
  generalize w.alloc (.cells #[.slice none 0 0, .slice none 0 0, .int .i64 0, .slice none 0 0, .slice none 0 0, .int .i64 0] 36) = w1 at *
  cases RB
  · have Z := Lib.hid (E0.out rfl)
    clear E0 E1
    go_wp2_with (first | (go_at_call 42; refine HV.out.mono ?_; rintro e w2 ⟨u, rfl, h2, hb2⟩; obtain ⟨A5, n5, c5, e5⟩ := h2.shape; subst e5; have B2 := Lib.hid hb2; have K4 := Lib.hid (blk_call X4.out hb2); obtain ⟨⟨k0, k1, k2, k3, k4, k5⟩, ⟨f0, f1, f2, f3, f4, f5⟩⟩ := blk6 K4.out; clear h2 hb2))
    refine bodyPost_ret (v := .tuple #[.agg #[.slice none 0 0, .slice none 0 0, .int .i64 0, .slice none 0 0, .slice none 0 0, .int .i64 0], .bool false]) ?_ rfl ?_
    · rw [results_cell_tmp rfl]
      go_simp
    · rw [Z.out.1, Z.out.2]
      refine FindPost.mk _ _ _ _ 0 0 rfl rfl rfl (plOk_zero _) ?_
      exact (B0.out.trans (B2.out.mono B0.out.size)).trans ((kp6 w2 w.heap.size _ _ _ _ _ _).below (by have := B0.out.size; have := B2.out.size; omega) (fun k hk e => by omega))
  · have Z := Lib.hid (E1.out rfl)
    clear E0 E1
    go_wp2_with (first
      | (go_at_call 42; refine HV.out.mono ?_; rintro e w2 ⟨u, rfl, h2, hb2⟩; have H2 := Lib.hid h2; obtain ⟨A5, n5, c5, e5⟩ := h2.shape; subst e5; have B2 := Lib.hid hb2; clear h2 hb2)
      | (go_at_call 20; refine (HFI.out _ _ B2.out H2.out).mono ?_; rintro e w3 ⟨v1, v2, v3, v4, rfl, h3, hb3⟩; have H3 := Lib.hid h3; have B3 := Lib.hid (B2.out.trans (hb3.mono B2.out.size)); have K4 := Lib.hid (blk_call X4.out B3.out); obtain ⟨⟨k0, k1, k2, k3, k4, k5⟩, ⟨f0, f1, f2, f3, f4, f5⟩⟩ := blk6 K4.out; obtain ⟨a1, m1, b1, a2, m2, b2, a3, m3, b3, a4, m4, b4, q1, q2, q3, q4⟩ := h3.shape; subst q1 q2 q3 q4; clear h3 hb3))
    have K44 := Lib.hid (set6 K4.out (.slice a1 m1 b1) (.slice a2 m2 b2) (.int .i64 GP.i) (.slice a3 m3 b3) (.slice a4 m4 b4) (.int .i64 GP.h))
    have D4 := Lib.hid (kp6 w3 w.heap.size (.slice a1 m1 b1) (.slice a2 m2 b2) (.int .i64 GP.i) (.slice a3 m3 b3) (.slice a4 m4 b4) (.int .i64 GP.h))
    refine bodyPost_ret (v := .tuple #[.agg #[.slice a1 m1 b1, .slice a2 m2 b2, .int .i64 GP.i, .slice a3 m3 b3, .slice a4 m4 b4, .int .i64 GP.h], .bool GB]) ?_ rfl ?_
    · rw [results_cell_tmp rfl]
      go_simp
    · rw [Z.out.1, Z.out.2]
      refine FindPost.mk _ _ _ _ _ _ rfl rfl rfl (H3.out.kpU K4.out (by decide) plC_no D4.out) ?_
      exact (B0.out.trans (B3.out.mono B0.out.size)).trans (D4.out.below (by have := B0.out.size; have := B3.out.size; omega) (fun k hk e => by omega))
end Go.Proofs.YthigandmemifoaaGreatDoor

namespace Go.Proofs.YthigandmemifoaaGreatDoor
open Go.PlainAid

/-- no mark -/
def Cl (l : List Int) : Prop := ∀ x ∈ l, x ≠ 47 ∧ x ≠ 63 ∧ x ≠ 38 ∧ x ≠ 61
theorem encI_cl (c : Int) (h : 0 ≤ c ∧ c ≤ 255) : Cl (encI c) := by
  unfold encI
  split
  · rename_i hp
    intro x hx
    simp at hx
    subst hx
    have := of_decide_eq_true hp
    omega
  · intro x hx
    simp at hx
    rcases hx with rfl | rfl | rfl
    · omega
    · unfold dg; split <;> omega
    · unfold dg; split <;> omega
theorem encL_cl {l : List Int} (h : InR l) : Cl (encL l) := by
  intro x hx
  simp only [encL, List.mem_flatMap] at hx
  obtain ⟨c, hc, hx⟩ := hx
  exact encI_cl c (h c hc) x hx
theorem enc_cl (s : ByteArray) : Cl (encL (bs s)) := encL_cl (bs_inR s)
theorem encL_pos {l : List Int} (h : 1 ≤ l.length) : 1 ≤ (encL l).length := by
  match l, h with
  | c :: r, _ =>
    have e : encL (c :: r) = encI c ++ encL r := rfl
    rw [e, List.length_append, encI]
    split <;> simp <;> omega
theorem inR_append {a b : List Int} (ha : InR a) (hb : InR b) : InR (a ++ b) := by
  intro x hx
  rw [List.mem_append] at hx
  rcases hx with h | h
  · exact ha x h
  · exact hb x h
theorem inR_cons {c : Int} {a : List Int} (h : 0 ≤ c ∧ c ≤ 255) (ha : InR a) : InR (c :: a) := by
  intro x hx
  rw [List.mem_cons] at hx
  rcases hx with rfl | hx
  · exact h
  · exact ha x hx
theorem inR_flat {α : Type} {l : List α} {f : α → List Int} (h : ∀ a ∈ l, InR (f a)) : InR (l.flatMap f) := by
  intro x hx
  rw [List.mem_flatMap] at hx
  obtain ⟨a, ha, hx⟩ := hx
  exact h a ha x hx
theorem enc_inR (s : ByteArray) : InR (encL (bs s)) := encL_inR (bs_inR s)

/-- a pair without the mark ahead -/
def pcL (x : Pr) : List Int := encL (bs x.1) ++ 61 :: encL (bs x.2)
theorem prL_is (m : Int) (x : Pr) : pqL m x = m :: pcL x := rfl
theorem pcL_inR (x : Pr) : InR (pcL x) := inR_append (enc_inR _) (inR_cons (by omega) (enc_inR _))
theorem headL_inR (p : List ByteArray) : InR (headL p) := by
  rw [headL]
  split
  · exact inR_cons (by omega) (by simp [InR])
  · exact inR_flat (fun a _ => inR_cons (by omega) (enc_inR a))
theorem qryL_inR (q : List Pr) : InR (qryL q) := by
  match q with
  | [] => simp [qryL, InR]
  | x :: r =>
    rw [qryL]
    exact inR_append (inR_cons (by omega) (pcL_inR x)) (inR_flat (fun a _ => inR_cons (by omega) (pcL_inR a)))
theorem urlL_inR (p : List ByteArray) (q : List Pr) : InR (urlL p q) := inR_append (headL_inR p) (qryL_inR q)

theorem head_no63 (p : List ByteArray) : ∀ x ∈ headL p, x ≠ 63 := by
  rw [headL]
  split
  · intro x hx; simp at hx; omega
  · intro x hx
    simp only [pathL, List.mem_flatMap, segL, List.mem_cons] at hx
    obtain ⟨a, _, rfl | hx⟩ := hx
    · omega
    · exact (enc_cl a x hx).2.1
theorem pc_no (x : Pr) : ∀ y ∈ pcL x, y ≠ 63 ∧ y ≠ 38 := by
  intro y hy
  simp only [pcL, List.mem_append, List.mem_cons] at hy
  rcases hy with hy | rfl | hy
  · exact ⟨(enc_cl _ y hy).2.1, (enc_cl _ y hy).2.2.1⟩
  · omega
  · exact ⟨(enc_cl _ y hy).2.1, (enc_cl _ y hy).2.2.1⟩
theorem body_no63 (x : Pr) (r : List Pr) : ∀ y ∈ pcL x ++ r.flatMap (pqL 38), y ≠ 63 := by
  intro y hy
  rw [List.mem_append, List.mem_flatMap] at hy
  rcases hy with hy | ⟨a, _, hy⟩
  · exact (pc_no x y hy).1
  · rw [prL_is, List.mem_cons] at hy
    rcases hy with rfl | hy
    · omega
    · exact (pc_no a y hy).1

/-- splitting what is put together with marks -/
theorem spl_join {α : Type} (m : Int) (f : α → List Int) (g : α → List Int) (hg : ∀ a, g a = m :: f a) (hf : ∀ a, ∀ y ∈ f a, y ≠ m) (r : List α) : ∀ e : List Int, (∀ y ∈ e, y ≠ m) → splL m (e ++ r.flatMap g) = e :: r.map f := by
  induction r with
  | nil => intro e he; simp [splL_none m e he]
  | cons a r ih =>
    intro e he
    rw [List.flatMap_cons, hg a, List.cons_append, splL_mark m e _ he, ih (f a) (hf a), List.map_cons]

theorem decS_enc (s : ByteArray) : decS (st (encL (bs s))) = s ∧ decB (st (encL (bs s))) = true := by
  rw [decS, decB, bs_st (enc_inR s), dec_enc (bs_inR s)]
  exact ⟨by simp [st_bs], rfl⟩

theorem rt_join {l : List Int} {m : Int} {M : Nat} {a : List ByteArray} (hl : InR l) (h : splL m l = a.map (fun s => encL (bs s))) (hM : a.length ≤ M) : rxB m M (st l) = true ∧ rxL m M (st l) = a := by
  have e : spl m (st l) = a.map (fun s => st (encL (bs s))) := by rw [spl, bs_st hl, h, List.map_map]; rfl
  have e1 : rxB m M (st l) = true := by
    rw [rxB, splB, e, Bool.and_eq_true]
    refine ⟨decide_eq_true (by simpa using hM), ?_⟩
    rw [List.all_eq_true]
    intro x hx
    rw [List.mem_map] at hx
    obtain ⟨s, _, rfl⟩ := hx
    exact (decS_enc s).2
  refine ⟨e1, ?_⟩
  rw [rxL, if_pos e1, e, List.map_map]
  conv => rhs; rw [← List.map_id a]
  apply List.map_congr_left
  intro s _
  exact (decS_enc s).1

theorem rp_head (p : List ByteArray) (h8 : p.length ≤ 8) (h1 : ∀ s ∈ p, 1 ≤ s.size) : upB (st (headL p)) = true ∧ rpL (st (headL p)) = p := by
  match p, h8, h1 with
  | [], _, _ =>
    have e : st (headL []) = ⟨#[47]⟩ := by decide +kernel
    rw [e]
    exact ⟨rfl, rfl⟩
  | a :: r, h8, h1 =>
    have e : headL (a :: r) = 47 :: (encL (bs a) ++ r.flatMap segL) := by
      rw [headL, if_neg (by simp), pathL, List.flatMap_cons, segL, List.cons_append]
    have hi := headL_inR (a :: r)
    have hne : ¬ st (headL (a :: r)) = ⟨#[47]⟩ := by
      intro h
      have h2 := congrArg ByteArray.size h
      rw [st_size, e, List.length_cons, List.length_append] at h2
      have h3 := encL_pos (l := bs a) (by rw [bs_len]; exact h1 a (by simp))
      have h4 : (⟨#[47]⟩ : ByteArray).size = 1 := rfl
      omega
    have et : (st (headL (a :: r))).extract 1 (st (headL (a :: r))).size = st (encL (bs a) ++ r.flatMap segL) := by
      apply bs_inj
      rw [bs_tail, bs_st hi, bs_st, e]
      · rfl
      · exact inR_append (enc_inR a) (inR_flat (fun b _ => inR_cons (by omega) (enc_inR b)))
    have hs : splL 47 (encL (bs a) ++ r.flatMap segL) = (a :: r).map (fun s => encL (bs s)) :=
      spl_join 47 (fun s => encL (bs s)) segL (fun _ => rfl) (fun b y hy => (enc_cl b y hy).1) r _ (fun y hy => (enc_cl a y hy).1)
    obtain ⟨k1, k2⟩ := rt_join (inR_append (enc_inR a) (inR_flat (fun b _ => inR_cons (by omega) (enc_inR b)))) hs h8
    rw [upB, rpL, if_neg hne, decide_eq_false hne, et]
    exact ⟨by rw [Bool.false_or]; exact k1, k2⟩

theorem pr_one (x : Pr) : rxB 61 2 (st (pcL x)) = true ∧ prV (st (pcL x)) = x := by
  have hs : splL 61 (pcL x) = [x.1, x.2].map (fun s => encL (bs s)) := by
    rw [pcL, splL_mark 61 _ _ (fun y hy => (enc_cl _ y hy).2.2.2), splL_none 61 _ (fun y hy => (enc_cl _ y hy).2.2.2)]
    rfl
  obtain ⟨k1, k2⟩ := rt_join (M := 2) (pcL_inR x) hs (by simp)
  refine ⟨k1, ?_⟩
  rw [prV, k2]
  rfl

theorem rq_body (x : Pr) (r : List Pr) (h8 : (x :: r).length ≤ 8) : rqB [st (pcL x ++ r.flatMap (pqL 38))] = true ∧ rqL [st (pcL x ++ r.flatMap (pqL 38))] = x :: r := by
  have hi : InR (pcL x ++ r.flatMap (pqL 38)) := inR_append (pcL_inR x) (inR_flat (fun a _ => inR_cons (by omega) (pcL_inR a)))
  have hs : splL 38 (pcL x ++ r.flatMap (pqL 38)) = (x :: r).map pcL :=
    spl_join 38 pcL (pqL 38) (fun _ => rfl) (fun b y hy => (pc_no b y hy).2) r _ (fun y hy => (pc_no x y hy).2)
  have e : spl 38 (st (pcL x ++ r.flatMap (pqL 38))) = (x :: r).map (fun y => st (pcL y)) := by rw [spl, bs_st hi, hs, List.map_map]; rfl
  have e1 : rqB [st (pcL x ++ r.flatMap (pqL 38))] = true := by
    rw [rqB]
    simp only [List.getD_cons_zero, splB, e, Bool.or_eq_true, Bool.and_eq_true]
    right
    refine ⟨decide_eq_true (by simpa using h8), ?_⟩
    rw [List.all_eq_true]
    intro y hy
    rw [List.mem_map] at hy
    obtain ⟨z, _, rfl⟩ := hy
    exact (pr_one z).1
  refine ⟨e1, ?_⟩
  rw [rqL, if_neg (by simp), if_pos e1]
  simp only [List.getD_cons_zero, e, List.map_map]
  conv => rhs; rw [← List.map_id (x :: r)]
  apply List.map_congr_left
  intro z _
  exact (pr_one z).2

/-- WHAT IS PRINTED IS PARSED -/
theorem par_prn {p : List ByteArray} {q : List Pr} (h : rightB p q = true) : parB (prnS p q) = true ∧ parP (prnS p q) = p ∧ parQ (prnS p q) = q := by
  obtain ⟨s1, s2, s3, s4⟩ := right_small h
  obtain ⟨k1, k2⟩ := rp_head p s1 (fun s hs => (s3 s hs).1)
  have hi := urlL_inR p q
  have e0 : prnS p q = st (urlL p q) := by rw [prnS, if_pos h]
  have hh : ∃ t, headL p = 47 :: t := by
    rw [headL]
    split
    · exact ⟨[], rfl⟩
    · rename_i hp
      match p, hp with
      | a :: r, _ => exact ⟨_, rfl⟩
  obtain ⟨t, ht⟩ := hh
  have hb : bs (prnS p q) = 47 :: (t ++ qryL q) := by rw [e0, bs_st hi, urlL, ht]; rfl
  have a1 : (prnS p q).size ≠ 0 ∧ bt (prnS p q) 0 = 47 := by
    constructor
    · rw [← bs_len, hb]; simp
    · rw [← bs_at, hb]; rfl
  have key : splB 63 2 (prnS p q) = true ∧ hv0 (prnS p q) = st (headL p) ∧ rqB (hvs1 (prnS p q)) = true ∧ rqL (hvs1 (prnS p q)) = q := by
    match q, hi, e0, s2 with
    | [], hi, e0, _ =>
      have e : spl 63 (prnS p []) = [st (headL p)] := by
        rw [e0, spl, bs_st hi, urlL, qryL, List.append_nil, splL_none 63 _ (head_no63 p)]
        rfl
      refine ⟨by rw [splB, e]; rfl, by rw [hv0, e]; rfl, ?_, ?_⟩ <;> rw [hvs1, e] <;> rfl
    | x :: r, hi, e0, h8 =>
      have e : spl 63 (prnS p (x :: r)) = [st (headL p), st (pcL x ++ r.flatMap (pqL 38))] := by
        rw [e0, spl, bs_st hi, urlL, qryL, prL_is, List.cons_append, splL_mark 63 _ _ (head_no63 p), splL_none 63 _ (body_no63 x r)]
        rfl
      obtain ⟨j1, j2⟩ := rq_body x r h8
      refine ⟨by rw [splB, e]; rfl, by rw [hv0, e]; rfl, ?_, ?_⟩
      · rw [hvs1, e]; exact j1
      · rw [hvs1, e]; exact j2
  obtain ⟨b1, b2, b3, b4⟩ := key
  have b : parB (prnS p q) = true := by
    rw [parB, decide_eq_true a1, b1, b2, b3, b4, k1, k2, h]
    rfl
  refine ⟨b, ?_, ?_⟩
  · rw [parP, if_pos b, b2, k2]
  · rw [parQ, if_pos b, b4]
/-- what is parsed is right -/
theorem par_right {s : ByteArray} (h : parB s = true) : rightB (parP s) (parQ s) = true := by
  rw [parP, parQ, if_pos h, if_pos h]
  rw [parB] at h
  simp only [Bool.and_eq_true] at h
  exact h.2.2.2.2
theorem par_none {s : ByteArray} (h : parB s = false) : parP s = [] ∧ parQ s = [] := by
  rw [parP, parQ, h]
  exact ⟨rfl, rfl⟩
theorem prn_size {p : List ByteArray} {q : List Pr} (h : rightB p q = true) : 1 ≤ (prnS p q).size ∧ (prnS p q).size ≤ 5000 := by
  obtain ⟨s1, s2, s3, s4⟩ := right_small h
  have e : (prnS p q).size = (headL p).length + (qryL q).length := by rw [prnS, if_pos h, st_size, urlL, List.length_append]
  have l2 := qry_len q (fun x hx => ⟨(s4 x hx).1.2, (s4 x hx).2⟩)
  have l1 : 1 ≤ (headL p).length ∧ (headL p).length ≤ 193 * 8 := by
    have := upath_len p (fun s hs => (s3 s hs).2)
    rw [headL]
    split
    · simp
    · rename_i hp
      match p, hp with
      | a :: r, _ => exact ⟨by simp [pathL, segL], by omega⟩
  omega
theorem prn_size' (p : List ByteArray) (q : List Pr) : (prnS p q).size ≤ 5000 := by
  by_cases h : rightB p q = true
  · exact (prn_size h).2
  · rw [prnS, if_neg h]; decide
end Go.Proofs.YthigandmemifoaaGreatDoor

namespace Go.Proofs.YthigandmemifoaaGreatDoor
open Go.RowKit Go.PlainAid
set_option maxRecDepth 100000

theorem all15s (l : List Rc) (c : List Nat) (u fv : Value) (n : Nat) (g : Nat → Bool) (w : World) (B : Nat) (w0 : World) (h : OwnRl B w0 u (c.map (fun k => rlR (l.getD k default))) w) (hz : c.length ≤ 1000) (k : Bs w fv n g) :
    Calls Tryz.prog 15 #[u, fv] w fun e w' => ∃ p, e = .returned (.tuple #[.int .i64 (syL l n g c).1, .string (syL l n g c).2, .int .i64 p]) ∧ Below w.heap.size w w' := by
  have hr := h.rs
  rw [List.length_map] at hr
  refine (all10 u fv c.length n _ g w hr hz k).mono ?_
  rintro e w' ⟨a, x, p, rfl, hp, hb⟩
  have := sy_all l n g _ c (fun i hi => by simp [List.getD, hi]) a x p hp
  rw [this]
  exact ⟨p, rfl, hb⟩
def ChOk (l : List Rc) (c : List Nat) : Prop := c.length ≤ 1000 ∧ ∀ x ∈ c, x < l.length
theorem fdP_ch {l : List Rc} (hf : Fit l) (p : List ByteArray) (q : List Pr) : ChOk l (fdP l p q).c := by
  rw [fdP]
  split
  · exact ⟨by have := ch_len l (fdI l p); have := hf.1; show (chL l (fdI l p)).length ≤ _; omega, ch_lt l _⟩
  · exact ⟨by simp [zPl], fun x hx => by simp [zPl] at hx⟩
theorem flP_ch {l : List Rc} (hf : Fit l) (s : ByteArray) : ChOk l (flP l s).c := by
  rw [flP]
  split
  · exact fdP_ch hf _ _
  · exact ⟨by simp [zPl], fun x hx => by simp [zPl] at hx⟩
theorem fdP_h (l : List Rc) (p : List ByteArray) (q : List Pr) : (fdP l p q).h = 0 := by rw [fdP]; split <;> rfl
theorem flP_h (l : List Rc) (s : ByteArray) : (flP l s).h = 0 := by
  rw [flP]
  split
  · exact fdP_h _ _ _
  · rfl

def GoPost (r : Int × Pl) (w : World) (e : Ending) (w' : World) : Prop :=
  ∃ v1 v2 v3 v4, e = .returned (.tuple #[.agg #[v1, v2, .int .i64 r.2.i, v3, v4, .int .i64 r.2.h], .int .i64 r.1]) ∧ PlOk w' v1 v2 v3 v4 r.2 ∧ Below w.heap.size w w'
theorem GoPost.mk {r : Int × Pl} {w : World} {e : Ending} {w' : World} (v1 v2 v3 v4 : Value) (i h er : Int) (hi : i = r.2.i) (hh : h = r.2.h) (hr : er = r.1) (he : e = .returned (.tuple #[.agg #[v1, v2, .int .i64 i, v3, v4, .int .i64 h], .int .i64 er])) (h1 : PlOk w' v1 v2 v3 v4 r.2) (h2 : Below w.heap.size w w') : GoPost r w e w' := by
  subst hi hh hr
  exact ⟨v1, v2, v3, v4, he, h1, h2⟩
/-- the end with an error: the place is zero -/
theorem go_err {r : Int × Pl} {w w4 : World} {X : Nat} {tmps : Array Value} {er : Int} (hr : r = (er, zPl)) (ht : tmps.getD 6 undef = .pointer (some ⟨X, 0, none⟩)) (h7 : tmps.getD 7 undef = .int .i64 er) (hX : w.heap.size ≤ X) {a0 a1 a2 a3 a4 a5 : Value} (hK : w4.heap[X]? = some (.cells #[a0, a1, a2, a3, a4, a5] 36 (0, 0))) (hb : Below w.heap.size w w4) :
    bodyPost Tryz.prog Tryz.f7 (GoPost r w) .ret { tmps := tmps, defers := [] } ((((((w4.setCell ⟨X, 0, none⟩ (.slice none 0 0)).setCell ⟨X, 1, none⟩ (.slice none 0 0)).setCell ⟨X, 2, none⟩ (.int .i64 0)).setCell ⟨X, 3, none⟩ (.slice none 0 0)).setCell ⟨X, 4, none⟩ (.slice none 0 0)).setCell ⟨X, 5, none⟩ (.int .i64 0)) := by
  subst hr
  have K := set6 hK (.slice none 0 0) (.slice none 0 0) (.int .i64 0) (.slice none 0 0) (.slice none 0 0) (.int .i64 0)
  have D := kp6 w4 X (.slice none 0 0) (.slice none 0 0) (.int .i64 0) (.slice none 0 0) (.slice none 0 0) (.int .i64 0)
  generalize (((((w4.setCell ⟨X, 0, none⟩ (.slice none 0 0)).setCell ⟨X, 1, none⟩ (.slice none 0 0)).setCell ⟨X, 2, none⟩ (.int .i64 0)).setCell ⟨X, 3, none⟩ (.slice none 0 0)).setCell ⟨X, 4, none⟩ (.slice none 0 0)).setCell ⟨X, 5, none⟩ (.int .i64 0) = w5 at *
  obtain ⟨⟨k0, k1, k2, k3, k4, k5⟩, -⟩ := blk6 K
  refine bodyPost_ret (v := .tuple #[.agg #[.slice none 0 0, .slice none 0 0, .int .i64 0, .slice none 0 0, .slice none 0 0, .int .i64 0], .int .i64 er]) ?_ rfl ?_
  · rw [results_cell_tmp rfl, ht, h7]
    go_simp
  · exact GoPost.mk _ _ _ _ 0 0 er rfl rfl rfl rfl (plOk_zero _) (hb.trans (D.below (by have := hb.size; omega) (fun k hk e => by omega)))
/-- the end at a place -/
theorem go_fin {r : Int × Pl} {w w4 : World} {X : Nat} {tmps : Array Value} {pl : Pl} {h : Int} {A1 A2 A3 A4 : Option Addr} {n1 n2 n3 n4 c1 c2 c3 c4 : Nat} (hr : r = (0, { pl with h := h })) (ht : tmps.getD 6 undef = .pointer (some ⟨X, 0, none⟩)) (h7 : tmps.getD 7 undef = .int .i64 0) (hX : w.heap.size ≤ X) (hK : w4.heap[X]? = some (.cells #[.slice none 0 0, .slice none 0 0, .int .i64 0, .slice none 0 0, .slice none 0 0, .int .i64 0] 36 (0, 0))) (hp : PlOk w4 (.slice A1 n1 c1) (.slice A2 n2 c2) (.slice A3 n3 c3) (.slice A4 n4 c4) pl) (hb : Below w.heap.size w w4) :
    bodyPost Tryz.prog Tryz.f7 (GoPost r w) .ret { tmps := tmps, defers := [] } ((((((w4.setCell ⟨X, 0, none⟩ (.slice A1 n1 c1)).setCell ⟨X, 1, none⟩ (.slice A2 n2 c2)).setCell ⟨X, 2, none⟩ (.int .i64 pl.i)).setCell ⟨X, 3, none⟩ (.slice A3 n3 c3)).setCell ⟨X, 4, none⟩ (.slice A4 n4 c4)).setCell ⟨X, 5, none⟩ (.int .i64 h)) := by
  subst hr
  have K := set6 hK (.slice A1 n1 c1) (.slice A2 n2 c2) (.int .i64 pl.i) (.slice A3 n3 c3) (.slice A4 n4 c4) (.int .i64 h)
  have D := kp6 w4 X (.slice A1 n1 c1) (.slice A2 n2 c2) (.int .i64 pl.i) (.slice A3 n3 c3) (.slice A4 n4 c4) (.int .i64 h)
  generalize (((((w4.setCell ⟨X, 0, none⟩ (.slice A1 n1 c1)).setCell ⟨X, 1, none⟩ (.slice A2 n2 c2)).setCell ⟨X, 2, none⟩ (.int .i64 pl.i)).setCell ⟨X, 3, none⟩ (.slice A3 n3 c3)).setCell ⟨X, 4, none⟩ (.slice A4 n4 c4)).setCell ⟨X, 5, none⟩ (.int .i64 h) = w5 at *
  obtain ⟨⟨k0, k1, k2, k3, k4, k5⟩, -⟩ := blk6 K
  refine bodyPost_ret (v := .tuple #[.agg #[.slice A1 n1 c1, .slice A2 n2 c2, .int .i64 pl.i, .slice A3 n3 c3, .slice A4 n4 c4, .int .i64 h], .int .i64 0]) ?_ rfl ?_
  · rw [results_cell_tmp rfl, ht, h7]
    go_simp
  · exact GoPost.mk _ _ _ _ pl.i h 0 rfl rfl rfl rfl (hp.kpU hK (by decide) plC_no D) (hb.trans (D.below (by have := hb.size; omega) (fun k hk e => by omega)))
theorem kpO (w : World) (b o : Nat) (x : Value) : Kp (fun k => k = b) w (w.setCell ⟨b, o, none⟩ x) := (Kp.refl (fun k => k = b) w).setCell (p := ⟨b, o, none⟩) (fun _ => rfl) x
end Go.Proofs.YthigandmemifoaaGreatDoor
