/-
  What is printed is parsed. No program.
-/
import Derived.Test.YtcppccpglcolnaaParse
import Derived.Test.YtcppccpglcolnaaPrn
namespace Go.Proofs.Ytcppccpglcolnaa
open Go.PlainAid

/-- no mark -/
def Cl (l : List Int) : Prop := ∀ x ∈ l, x ≠ 47 ∧ x ≠ 63 ∧ x ≠ 38 ∧ x ≠ 61
theorem encI_cl (c : Int) (h : 0 ≤ c ∧ c ≤ 255) : Cl (encI c) := by
  unfold encI
  split
  · rename_i hp
    intro x hx
    simp at hx
    subst hx
    have := of_decide_eq_true hp
    omega
  · intro x hx
    simp at hx
    rcases hx with rfl | rfl | rfl
    · omega
    · unfold dg; split <;> omega
    · unfold dg; split <;> omega
theorem encL_cl {l : List Int} (h : InR l) : Cl (encL l) := by
  intro x hx
  simp only [encL, List.mem_flatMap] at hx
  obtain ⟨c, hc, hx⟩ := hx
  exact encI_cl c (h c hc) x hx
theorem enc_cl (s : ByteArray) : Cl (encL (bs s)) := encL_cl (bs_inR s)
theorem encL_pos {l : List Int} (h : 1 ≤ l.length) : 1 ≤ (encL l).length := by
  match l, h with
  | c :: r, _ =>
    have e : encL (c :: r) = encI c ++ encL r := rfl
    rw [e, List.length_append, encI]
    split <;> simp <;> omega
theorem inR_append {a b : List Int} (ha : InR a) (hb : InR b) : InR (a ++ b) := by
  intro x hx
  rw [List.mem_append] at hx
  rcases hx with h | h
  · exact ha x h
  · exact hb x h
theorem inR_cons {c : Int} {a : List Int} (h : 0 ≤ c ∧ c ≤ 255) (ha : InR a) : InR (c :: a) := by
  intro x hx
  rw [List.mem_cons] at hx
  rcases hx with rfl | hx
  · exact h
  · exact ha x hx
theorem inR_flat {α : Type} {l : List α} {f : α → List Int} (h : ∀ a ∈ l, InR (f a)) : InR (l.flatMap f) := by
  intro x hx
  rw [List.mem_flatMap] at hx
  obtain ⟨a, ha, hx⟩ := hx
  exact h a ha x hx
theorem enc_inR (s : ByteArray) : InR (encL (bs s)) := encL_inR (bs_inR s)

/-- a pair without the mark ahead -/
def pcL (x : Pr) : List Int := encL (bs x.1) ++ 61 :: encL (bs x.2)
theorem prL_is (m : Int) (x : Pr) : prL m x = m :: pcL x := rfl
theorem pcL_inR (x : Pr) : InR (pcL x) := inR_append (enc_inR _) (inR_cons (by omega) (enc_inR _))
theorem headL_inR (p : List ByteArray) : InR (headL p) := by
  rw [headL]
  split
  · exact inR_cons (by omega) (by simp [InR])
  · exact inR_flat (fun a _ => inR_cons (by omega) (enc_inR a))
theorem qryL_inR (q : List Pr) : InR (qryL q) := by
  match q with
  | [] => simp [qryL, InR]
  | x :: r =>
    rw [qryL]
    exact inR_append (inR_cons (by omega) (pcL_inR x)) (inR_flat (fun a _ => inR_cons (by omega) (pcL_inR a)))
theorem urlL_inR (p : List ByteArray) (q : List Pr) : InR (urlL p q) := inR_append (headL_inR p) (qryL_inR q)

theorem head_no63 (p : List ByteArray) : ∀ x ∈ headL p, x ≠ 63 := by
  rw [headL]
  split
  · intro x hx; simp at hx; omega
  · intro x hx
    simp only [pathL, List.mem_flatMap, segL, List.mem_cons] at hx
    obtain ⟨a, _, rfl | hx⟩ := hx
    · omega
    · exact (enc_cl a x hx).2.1
theorem pc_no (x : Pr) : ∀ y ∈ pcL x, y ≠ 63 ∧ y ≠ 38 := by
  intro y hy
  simp only [pcL, List.mem_append, List.mem_cons] at hy
  rcases hy with hy | rfl | hy
  · exact ⟨(enc_cl _ y hy).2.1, (enc_cl _ y hy).2.2.1⟩
  · omega
  · exact ⟨(enc_cl _ y hy).2.1, (enc_cl _ y hy).2.2.1⟩
theorem body_no63 (x : Pr) (r : List Pr) : ∀ y ∈ pcL x ++ r.flatMap (prL 38), y ≠ 63 := by
  intro y hy
  rw [List.mem_append, List.mem_flatMap] at hy
  rcases hy with hy | ⟨a, _, hy⟩
  · exact (pc_no x y hy).1
  · rw [prL_is, List.mem_cons] at hy
    rcases hy with rfl | hy
    · omega
    · exact (pc_no a y hy).1

/-- splitting what is put together with marks -/
theorem spl_join {α : Type} (m : Int) (f : α → List Int) (g : α → List Int) (hg : ∀ a, g a = m :: f a) (hf : ∀ a, ∀ y ∈ f a, y ≠ m) (r : List α) : ∀ e : List Int, (∀ y ∈ e, y ≠ m) → splL m (e ++ r.flatMap g) = e :: r.map f := by
  induction r with
  | nil => intro e he; simp [splL_none m e he]
  | cons a r ih =>
    intro e he
    rw [List.flatMap_cons, hg a, List.cons_append, splL_mark m e _ he, ih (f a) (hf a), List.map_cons]

theorem decS_enc (s : ByteArray) : decS (st (encL (bs s))) = s ∧ decB (st (encL (bs s))) = true := by
  rw [decS, decB, bs_st (enc_inR s), dec_enc (bs_inR s)]
  exact ⟨by simp [st_bs], rfl⟩

theorem rt_join {l : List Int} {m : Int} {M : Nat} {a : List ByteArray} (hl : InR l) (h : splL m l = a.map (fun s => encL (bs s))) (hM : a.length ≤ M) : rtB m M (st l) = true ∧ rtL m M (st l) = a := by
  have e : spl m (st l) = a.map (fun s => st (encL (bs s))) := by rw [spl, bs_st hl, h, List.map_map]; rfl
  have e1 : rtB m M (st l) = true := by
    rw [rtB, splB, e, Bool.and_eq_true]
    refine ⟨decide_eq_true (by simpa using hM), ?_⟩
    rw [List.all_eq_true]
    intro x hx
    rw [List.mem_map] at hx
    obtain ⟨s, _, rfl⟩ := hx
    exact (decS_enc s).2
  refine ⟨e1, ?_⟩
  rw [rtL, if_pos e1, e, List.map_map]
  conv => rhs; rw [← List.map_id a]
  apply List.map_congr_left
  intro s _
  exact (decS_enc s).1

theorem rp_head (p : List ByteArray) (h8 : p.length ≤ 8) (h1 : ∀ s ∈ p, 1 ≤ s.size) : rpB (st (headL p)) = true ∧ rpL (st (headL p)) = p := by
  match p, h8, h1 with
  | [], _, _ =>
    have e : st (headL []) = ⟨#[47]⟩ := by decide +kernel
    rw [e]
    exact ⟨rfl, rfl⟩
  | a :: r, h8, h1 =>
    have e : headL (a :: r) = 47 :: (encL (bs a) ++ r.flatMap segL) := by
      rw [headL, if_neg (by simp), pathL, List.flatMap_cons, segL, List.cons_append]
    have hi := headL_inR (a :: r)
    have hne : ¬ st (headL (a :: r)) = ⟨#[47]⟩ := by
      intro h
      have h2 := congrArg ByteArray.size h
      rw [st_size, e, List.length_cons, List.length_append] at h2
      have h3 := encL_pos (l := bs a) (by rw [bs_len]; exact h1 a (by simp))
      have h4 : (⟨#[47]⟩ : ByteArray).size = 1 := rfl
      omega
    have et : (st (headL (a :: r))).extract 1 (st (headL (a :: r))).size = st (encL (bs a) ++ r.flatMap segL) := by
      apply bs_inj
      rw [bs_tail, bs_st hi, bs_st, e]
      · rfl
      · exact inR_append (enc_inR a) (inR_flat (fun b _ => inR_cons (by omega) (enc_inR b)))
    have hs : splL 47 (encL (bs a) ++ r.flatMap segL) = (a :: r).map (fun s => encL (bs s)) :=
      spl_join 47 (fun s => encL (bs s)) segL (fun _ => rfl) (fun b y hy => (enc_cl b y hy).1) r _ (fun y hy => (enc_cl a y hy).1)
    obtain ⟨k1, k2⟩ := rt_join (inR_append (enc_inR a) (inR_flat (fun b _ => inR_cons (by omega) (enc_inR b)))) hs h8
    rw [rpB, rpL, if_neg hne, decide_eq_false hne, et]
    exact ⟨by rw [Bool.false_or]; exact k1, k2⟩

theorem pr_one (x : Pr) : rtB 61 2 (st (pcL x)) = true ∧ prV (st (pcL x)) = x := by
  have hs : splL 61 (pcL x) = [x.1, x.2].map (fun s => encL (bs s)) := by
    rw [pcL, splL_mark 61 _ _ (fun y hy => (enc_cl _ y hy).2.2.2), splL_none 61 _ (fun y hy => (enc_cl _ y hy).2.2.2)]
    rfl
  obtain ⟨k1, k2⟩ := rt_join (M := 2) (pcL_inR x) hs (by simp)
  refine ⟨k1, ?_⟩
  rw [prV, k2]
  rfl

theorem rq_body (x : Pr) (r : List Pr) (h8 : (x :: r).length ≤ 8) : rqB [st (pcL x ++ r.flatMap (prL 38))] = true ∧ rqL [st (pcL x ++ r.flatMap (prL 38))] = x :: r := by
  have hi : InR (pcL x ++ r.flatMap (prL 38)) := inR_append (pcL_inR x) (inR_flat (fun a _ => inR_cons (by omega) (pcL_inR a)))
  have hs : splL 38 (pcL x ++ r.flatMap (prL 38)) = (x :: r).map pcL :=
    spl_join 38 pcL (prL 38) (fun _ => rfl) (fun b y hy => (pc_no b y hy).2) r _ (fun y hy => (pc_no x y hy).2)
  have e : spl 38 (st (pcL x ++ r.flatMap (prL 38))) = (x :: r).map (fun y => st (pcL y)) := by rw [spl, bs_st hi, hs, List.map_map]; rfl
  have e1 : rqB [st (pcL x ++ r.flatMap (prL 38))] = true := by
    rw [rqB]
    simp only [List.getD_cons_zero, splB, e, Bool.or_eq_true, Bool.and_eq_true]
    right
    refine ⟨decide_eq_true (by simpa using h8), ?_⟩
    rw [List.all_eq_true]
    intro y hy
    rw [List.mem_map] at hy
    obtain ⟨z, _, rfl⟩ := hy
    exact (pr_one z).1
  refine ⟨e1, ?_⟩
  rw [rqL, if_neg (by simp), if_pos e1]
  simp only [List.getD_cons_zero, e, List.map_map]
  conv => rhs; rw [← List.map_id (x :: r)]
  apply List.map_congr_left
  intro z _
  exact (pr_one z).2

/-- WHAT IS PRINTED IS PARSED -/
theorem par_prn {p : List ByteArray} {q : List Pr} (h : rightB p q = true) : parB (prnS p q) = true ∧ parP (prnS p q) = p ∧ parQ (prnS p q) = q := by
  obtain ⟨s1, s2, s3, s4⟩ := right_small h
  obtain ⟨k1, k2⟩ := rp_head p s1 (fun s hs => (s3 s hs).1)
  have hi := urlL_inR p q
  have e0 : prnS p q = st (urlL p q) := by rw [prnS, if_pos h]
  have hh : ∃ t, headL p = 47 :: t := by
    rw [headL]
    split
    · exact ⟨[], rfl⟩
    · rename_i hp
      match p, hp with
      | a :: r, _ => exact ⟨_, rfl⟩
  obtain ⟨t, ht⟩ := hh
  have hb : bs (prnS p q) = 47 :: (t ++ qryL q) := by rw [e0, bs_st hi, urlL, ht]; rfl
  have a1 : (prnS p q).size ≠ 0 ∧ bt (prnS p q) 0 = 47 := by
    constructor
    · rw [← bs_len, hb]; simp
    · rw [← bs_at, hb]; rfl
  have key : splB 63 2 (prnS p q) = true ∧ hv0 (prnS p q) = st (headL p) ∧ rqB (hvs1 (prnS p q)) = true ∧ rqL (hvs1 (prnS p q)) = q := by
    match q, hi, e0, s2 with
    | [], hi, e0, _ =>
      have e : spl 63 (prnS p []) = [st (headL p)] := by
        rw [e0, spl, bs_st hi, urlL, qryL, List.append_nil, splL_none 63 _ (head_no63 p)]
        rfl
      refine ⟨by rw [splB, e]; rfl, by rw [hv0, e]; rfl, ?_, ?_⟩ <;> rw [hvs1, e] <;> rfl
    | x :: r, hi, e0, h8 =>
      have e : spl 63 (prnS p (x :: r)) = [st (headL p), st (pcL x ++ r.flatMap (prL 38))] := by
        rw [e0, spl, bs_st hi, urlL, qryL, prL_is, List.cons_append, splL_mark 63 _ _ (head_no63 p), splL_none 63 _ (body_no63 x r)]
        rfl
      obtain ⟨j1, j2⟩ := rq_body x r h8
      refine ⟨by rw [splB, e]; rfl, by rw [hv0, e]; rfl, ?_, ?_⟩
      · rw [hvs1, e]; exact j1
      · rw [hvs1, e]; exact j2
  obtain ⟨b1, b2, b3, b4⟩ := key
  have b : parB (prnS p q) = true := by
    rw [parB, decide_eq_true a1, b1, b2, b3, b4, k1, k2, h]
    rfl
  refine ⟨b, ?_, ?_⟩
  · rw [parP, if_pos b, b2, k2]
  · rw [parQ, if_pos b, b4]
/-- what is parsed is right -/
theorem par_right {s : ByteArray} (h : parB s = true) : rightB (parP s) (parQ s) = true := by
  rw [parP, parQ, if_pos h, if_pos h]
  rw [parB] at h
  simp only [Bool.and_eq_true] at h
  exact h.2.2.2.2
theorem par_none {s : ByteArray} (h : parB s = false) : parP s = [] ∧ parQ s = [] := by
  rw [parP, parQ, h]
  exact ⟨rfl, rfl⟩
theorem prn_size {p : List ByteArray} {q : List Pr} (h : rightB p q = true) : 1 ≤ (prnS p q).size ∧ (prnS p q).size ≤ 5000 := by
  obtain ⟨s1, s2, s3, s4⟩ := right_small h
  have e : (prnS p q).size = (headL p).length + (qryL q).length := by rw [prnS, if_pos h, st_size, urlL, List.length_append]
  have l2 := qry_len q (fun x hx => ⟨(s4 x hx).1.2, (s4 x hx).2⟩)
  have l1 : 1 ≤ (headL p).length ∧ (headL p).length ≤ 193 * 8 := by
    have := path_len p (fun s hs => (s3 s hs).2)
    rw [headL]
    split
    · simp
    · rename_i hp
      match p, hp with
      | a :: r, _ => exact ⟨by simp [pathL, segL], by omega⟩
  omega
theorem prn_size' (p : List ByteArray) (q : List Pr) : (prnS p q).size ≤ 5000 := by
  by_cases h : rightB p q = true
  · exact (prn_size h).2
  · rw [prnS, if_neg h]; decide
end Go.Proofs.Ytcppccpglcolnaa
