/-
  strings.CutPrefix, CutSuffix at one byte; pattern.readSeg.
-/
import Derived.Test.YtdlljccabkmfiaaDoorSplN
namespace Go.Proofs.YtdlljccabkmfiaaDoor
open Go.RowKit Go.PlainAid

def cutB (s : ByteArray) (c : Int) : Bool := decide ((bs s).head? = some c)
def cutS (s : ByteArray) (c : Int) : ByteArray := if cutB s c then st ((bs s).drop 1) else s
def sufB (s : ByteArray) (c : Int) : Bool := decide ((bs s).getLast? = some c)
def sufS (s : ByteArray) (c : Int) : ByteArray := if sufB s c then st (bs s).dropLast else s

theorem st_of (l : List UInt8) : (⟨l.toArray⟩ : ByteArray) = st (l.map (fun b => (b.toNat : Int))) := by
  rw [st]
  congr 1
  simp [List.map_map, Function.comp_def]
theorem u8_eq (a b : UInt8) : (a == b) = decide ((a.toNat : Int) = (b.toNat : Int)) := by
  rw [Bool.eq_iff_iff]
  simp only [beq_iff_eq, decide_eq_true_eq]
  constructor
  · rintro rfl; rfl
  · intro h
    apply UInt8.toNat_inj.1
    omega
theorem cut_is (s : ByteArray) (b : UInt8) : Lib.hasPrefix s.data.toList [b] = cutB s (b.toNat : Int) ∧ (⟨(Lib.trimPrefix s.data.toList [b]).toArray⟩ : ByteArray) = cutS s (b.toNat : Int) := by
  have h1 : Lib.hasPrefix s.data.toList [b] = cutB s (b.toNat : Int) := by
    unfold Lib.hasPrefix cutB bs
    rcases s.data.toList with _ | ⟨x, r⟩
    · rfl
    · rw [List.map_cons, List.head?_cons]
      show (b == x && true) = _
      rw [Bool.and_true, u8_eq, Bool.eq_iff_iff]
      simp only [decide_eq_true_eq, Option.some.injEq]
      exact eq_comm
  refine ⟨h1, ?_⟩
  rw [Lib.trimPrefix, h1, cutS]
  split
  · rw [st_of, List.map_drop]; rfl
  · rfl
theorem cutPre22 (s : ByteArray) (b : UInt8) (w : World) : Calls Tryd.prog 22 #[.string s, .string ⟨#[b]⟩] w fun e w' => e = .returned (.tuple #[.string (cutS s (b.toNat : Int)), .bool (cutB s (b.toNat : Int))]) ∧ w' = w := by
  refine (Tryd.strings_CutPrefix s ⟨#[b]⟩ w).mono ?_
  rintro e w' ⟨rfl, rfl⟩
  obtain ⟨h1, h2⟩ := cut_is s b
  rw [← h1, ← h2]
  exact ⟨rfl, rfl⟩
theorem suf_is (s : ByteArray) (b : UInt8) : Lib.hasSuffix s.data.toList [b] = sufB s (b.toNat : Int) ∧ (⟨(Lib.trimSuffix s.data.toList [b]).toArray⟩ : ByteArray) = sufS s (b.toNat : Int) := by
  have h1 : Lib.hasSuffix s.data.toList [b] = sufB s (b.toNat : Int) := by
    unfold Lib.hasSuffix sufB bs
    rw [Bool.eq_iff_iff, decide_eq_true_eq, List.isSuffixOf_iff_suffix, List.getLast?_map]
    constructor
    · rintro ⟨t, ht⟩
      rw [← ht]
      simp
    · intro h
      rw [Option.map_eq_some_iff] at h
      obtain ⟨x, hx, he⟩ := h
      obtain rfl : x = b := by
        have := u8_eq x b
        rw [decide_eq_true he] at this
        exact beq_iff_eq.1 this
      refine ⟨s.data.toList.dropLast, ?_⟩
      rw [List.getLast?_eq_some_iff] at hx
      obtain ⟨ys, hy⟩ := hx
      rw [hy]
      simp
  refine ⟨h1, ?_⟩
  rw [Lib.trimSuffix, h1, sufS]
  split
  · rw [st_of]
    congr 1
    rw [bs, List.dropLast_eq_take, List.map_take]
    simp
  · rfl
theorem cutSuf43 (s : ByteArray) (b : UInt8) (w : World) (hs : s.size ≤ 1000000000) : Calls Tryd.prog 43 #[.string s, .string ⟨#[b]⟩] w fun e w' => e = .returned (.tuple #[.string (sufS s (b.toNat : Int)), .bool (sufB s (b.toNat : Int))]) ∧ w' = w := by
  refine (Tryd.strings_CutSuffix s ⟨#[b]⟩ w (by omega)).mono ?_
  rintro e w' ⟨rfl, rfl⟩
  obtain ⟨h1, h2⟩ := suf_is s b
  rw [← h1, ← h2]
  exact ⟨rfl, rfl⟩

def rdS (p : ByteArray) : Sg := rdL (bs p)
theorem rd_cases (p : ByteArray) : (cutB p 42 = true ∧ rdS p = (3, cutS p 42)) ∨ (cutB p 42 = false ∧ cutB p 58 = false ∧ rdS p = (0, p)) ∨
    (cutB p 42 = false ∧ cutB p 58 = true ∧ sufB (cutS p 58) 63 = true ∧ rdS p = (2, sufS (cutS p 58) 63)) ∨ (cutB p 42 = false ∧ cutB p 58 = true ∧ sufB (cutS p 58) 63 = false ∧ rdS p = (1, cutS p 58)) := by
  have hb := bs_inR p
  have hp := st_bs p
  unfold rdS
  rw [cutS, cutS, sufS, sufB, cutB, cutB]
  rcases hl : bs p with _ | ⟨c, r⟩
  · rw [hl] at hp
    refine Or.inr (Or.inl ⟨rfl, rfl, ?_⟩)
    rw [rdL, hp]
  · rw [hl] at hp hb
    have hr : InR r := fun x hx => hb x (by simp [hx])
    by_cases h1 : c = 42
    · subst h1
      exact Or.inl ⟨rfl, rfl⟩
    · have e1 : decide ((c :: r).head? = some 42) = false := by simp [h1]
      by_cases h2 : c = 58
      · subst h2
        have e2 : decide (((58 : Int) :: r).head? = some 58) = true := rfl
        rw [e1, e2, if_pos rfl, List.drop_one, List.tail_cons, bs_st hr, rdL, if_neg (by omega), if_pos rfl]
        by_cases h3 : r.getLast? = some 63
        · refine Or.inr (Or.inr (Or.inl ⟨rfl, rfl, decide_eq_true h3, ?_⟩))
          rw [if_pos h3, decide_eq_true h3, if_pos rfl]
        · refine Or.inr (Or.inr (Or.inr ⟨rfl, rfl, decide_eq_false h3, ?_⟩))
          rw [if_neg h3]
      · have e2 : decide ((c :: r).head? = some 58) = false := by simp [h2]
        refine Or.inr (Or.inl ⟨e1, e2, ?_⟩)
        rw [rdL, if_neg h1, if_neg h2, hp]
theorem cutS_size (p : ByteArray) (c : Int) : (cutS p c).size ≤ p.size := by
  rw [cutS]
  split
  · rw [st_size, List.length_drop, bs_len]; omega
  · omega

theorem size49 : (Tryd.prog.info? 49).map (·.size) = some 2 := by kernel_rfl
set_option maxHeartbeats 800000 in
theorem readSeg24 (p : ByteArray) (w : World) (hs : p.size ≤ 1000000000) : Calls Tryd.prog 24 #[.string p] w fun e w' => e = .returned (.agg #[.int .i64 (rdS p).1, .string (rdS p).2]) ∧ Below w.heap.size w w' := by
  have hz := cutS_size p 58
  have hz2 : Hid ((cutS p 58).size ≤ 1000000000) := by show _ ≤ _; omega
  clear hz
  rcases rd_cases p with ⟨h1, h2⟩ | ⟨h1, h2, h3⟩ | ⟨h1, h2, h3, h4⟩ | ⟨h1, h2, h3, h4⟩
  · rw [h2]
    clear h2
    go_enter Tryd.func24, Tryd.ntmps24
    go_wp2_with (first | (go_at_call 22; refine (cutPre22 _ _ _).mono ?_; rintro e w' ⟨rfl, rfl⟩; rw [show ((42 : UInt8).toNat : Int) = 42 from rfl, h1]))
    exact bodyPost_ret (v := .agg #[.int .i64 3, .string (cutS p 42)]) (results_cell_row (P := Tryd.prog) rfl _ _ w.heap.size 49 #[.int .i64 3, .string (cutS p 42)] (0, 0) _ rfl (blk_new w _) Tryd.underlying49 rfl size49) rfl ⟨rfl, (Below.refl _ _).alloc (Nat.le_refl _) _⟩
  · rw [h3]
    clear h3
    go_enter Tryd.func24, Tryd.ntmps24
    go_wp2_with (first | (go_at_call 22; refine (cutPre22 _ _ _).mono ?_; rintro e w' ⟨rfl, rfl⟩; first | rw [show ((42 : UInt8).toNat : Int) = 42 from rfl, h1] | rw [show ((58 : UInt8).toNat : Int) = 58 from rfl, h2]))
    exact bodyPost_ret (v := .agg #[.int .i64 0, .string p]) (results_cell_row (P := Tryd.prog) rfl _ _ w.heap.size 49 #[.int .i64 0, .string p] (0, 0) _ rfl (blk_new w _) Tryd.underlying49 rfl size49) rfl ⟨rfl, (Below.refl _ _).alloc (Nat.le_refl _) _⟩
  · rw [h4]
    clear h4
    go_enter Tryd.func24, Tryd.ntmps24
    go_wp2_with (first | (go_at_call 22; refine (cutPre22 _ _ _).mono ?_; rintro e w' ⟨rfl, rfl⟩; first | rw [show ((42 : UInt8).toNat : Int) = 42 from rfl, h1] | rw [show ((58 : UInt8).toNat : Int) = 58 from rfl, h2]) | (go_at_call 43; refine (cutSuf43 _ _ _ hz2.out).mono ?_; rintro e w' ⟨rfl, rfl⟩; rw [show ((63 : UInt8).toNat : Int) = 63 from rfl, h3]))
    exact bodyPost_ret (v := .agg #[.int .i64 2, .string (sufS (cutS p 58) 63)]) (results_cell_row (P := Tryd.prog) rfl _ _ w.heap.size 49 #[.int .i64 2, .string (sufS (cutS p 58) 63)] (0, 0) _ rfl (blk_new w _) Tryd.underlying49 rfl size49) rfl ⟨rfl, (Below.refl _ _).alloc (Nat.le_refl _) _⟩
  · rw [h4]
    clear h4
    go_enter Tryd.func24, Tryd.ntmps24
    go_wp2_with (first | (go_at_call 22; refine (cutPre22 _ _ _).mono ?_; rintro e w' ⟨rfl, rfl⟩; first | rw [show ((42 : UInt8).toNat : Int) = 42 from rfl, h1] | rw [show ((58 : UInt8).toNat : Int) = 58 from rfl, h2]) | (go_at_call 43; refine (cutSuf43 _ _ _ hz2.out).mono ?_; rintro e w' ⟨rfl, rfl⟩; rw [show ((63 : UInt8).toNat : Int) = 63 from rfl, h3]))
    exact bodyPost_ret (v := .agg #[.int .i64 1, .string (cutS p 58)]) (results_cell_row (P := Tryd.prog) rfl _ _ w.heap.size 49 #[.int .i64 1, .string (cutS p 58)] (0, 0) _ rfl (blk_new w _) Tryd.underlying49 rfl size49) rfl ⟨rfl, (Below.refl _ _).alloc (Nat.le_refl _) _⟩

theorem rd_len (p : ByteArray) : (rdS p).2.size ≤ p.size := by
  have hz := cutS_size p 58
  have hy := cutS_size p 42
  rcases rd_cases p with ⟨h1, h2⟩ | ⟨h1, h2, h3⟩ | ⟨h1, h2, h3, h4⟩ | ⟨h1, h2, h3, h4⟩
  · rw [h2]; exact hy
  · rw [h3]; exact Nat.le_refl _
  · rw [h4]
    show (sufS (cutS p 58) 63).size ≤ _
    rw [sufS, h3, if_pos rfl, st_size, List.length_dropLast, bs_len]
    omega
  · rw [h4]; exact hz
theorem spN_len (s : ByteArray) : (spN 47 8 s).length ≤ 9 := by
  rw [spN, List.length_map]
  exact (splNL_len 47 8 (bs s)).2
theorem spN_size (s : ByteArray) : ∀ p ∈ spN 47 8 s, p.size ≤ s.size := by
  intro p hp
  rw [spN, List.mem_map] at hp
  obtain ⟨q, hq, rfl⟩ := hp
  rw [st_size]
  have := splNL_size 47 8 (bs s) q hq
  rw [bs_len] at this
  exact this
theorem splNL_inR (m : Int) : ∀ (n : Nat) (l : List Int), InR l → ∀ q ∈ splNL m n l, InR q := by
  intro n
  induction n with
  | zero => intro l hl q hq; simp [splNL] at hq; rw [hq]; exact hl
  | succ n ih =>
    intro l hl q hq
    rcases first_mark m l with hm | ⟨p, r, rfl, hm⟩
    · rw [splNL_none m _ l hm] at hq; simp at hq; rw [hq]; exact hl
    · rw [splNL_mark m n p r hm, List.mem_cons] at hq
      rcases hq with rfl | hq
      · exact fun x hx => hl x (by simp [hx])
      · exact ih r (fun x hx => hl x (by simp [hx])) q hq
theorem cmI_is (s : ByteArray) (b : ByteArray) (h : bs b = (bs s).drop 1) : cmI s = (spN 47 8 b).map rdS := by
  rw [cmI, spN, h, List.map_map]
  apply List.map_congr_left
  intro q hq
  have : InR q := splNL_inR 47 8 _ (fun x hx => bs_inR s x (List.mem_of_mem_drop hx)) q hq
  show rdL q = rdL (bs (st q))
  rw [bs_st this]
end Go.Proofs.YtdlljccabkmfiaaDoor
